import PyProof.Rows.All
import Wide.All
import OpenK.AllK
import Wide.FinOn
import HandS.ForMost
import HandS.ForExc
import HandS.Steps
import HandS.Star
import HandS.Conv
import HandS.WideBits
import HandS.Codes
import HandS.Walk
import HandS.ExcCtx
import HandS.HotCalls
import HandS.Wide
import HandS.IsInst
import HandS.TupAny
import HandS.SortInts
import HandS.Gcd
import KE.SortData
import KE.DataCmp
import KE.KDictDisplayH
import HandS.TryOnly
import HandS.Text
import HandS.SetBool
import HandS.SetTxt0
import HandS.ExcIs
import HandS.ExcInitHot
import HandS.TupLen
import HandS.Dict
import HandS.HeadHook2
import HandS.HeadHook1
import HandS.HeadEnd
import HandS.Head3
import HandS.Ends
import HandS.ListItems
import KE.KDictPairs
import HandS.DictComp
import HandS.Flow
import PySem.Challenge.RW_joinpast_k02_polynomial_division
set_option Elab.async false
set_option linter.all false
set_option maxRecDepth 100000
set_option maxHeartbeats 1000000
/-! Plain data over the abstract heap: what a value stands for, how the heap grows, what slots hold. -/
namespace DL
open PySem L2
/-- plain data -/
inductive D where
  | non | bl (b : Bool) | int (i : Int) | str (x : Str)
  | lst (ds : List D) | tup (ds : List D)
  | dk (ks : List Key) (ds : List D)
  | dt (ks : List (List Key)) (ds : List D)
  | ins (C : Addr) (ns : List Str) (ds : List D)
  | scr (ns : List Int)
  | ty (n : String)
  | cls (C : Addr)
  | tupZ (ds : List D)
/-- an object that is a plain tuple -/
def GoodT (o : Obj) : Prop := o.cls = .type "tuple" ∧ o.dict = none ∧ ∃ its n, o.data = .seq its n
def Ex (H H' : Hp) : Prop := ∀ a o, H a = some o → H' a = some o
theorem Ex.refl (H : Hp) : Ex H H := fun _ _ h => h
theorem Ex.trans {H H1 H2 : Hp} (a : Ex H H1) (b : Ex H1 H2) : Ex H H2 := fun x o h => b x o (a x o h)
theorem Ex.back {H H1 : Hp} (a : Ex H H1) {p : Addr} (h : H1 p = none) : H p = none := by
  cases e : H p with
  | none => rfl
  | some o => rw [a p o e] at h; cases h
theorem Ex.rd {H H' : Hp} {a : Addr} {u : HO} (e : Ex H H') (h : Rd H a u) : Rd H' a u := by
  rcases h with h | ⟨o, h⟩
  · exact Or.inl (e a _ h)
  · exact Or.inr ⟨o, e a _ h⟩
theorem Ex.sl {K : PySem.W.Frag} {H H' : Hp} {a : Addr} {xs : List V} (e : Ex H H') (h : SqL K H a xs) : SqL K H' a xs := by
  rcases h with h | h
  · exact Or.inl (e.rd h)
  · exact Or.inr h
theorem Ex.st {K : PySem.W.Frag} {H H' : Hp} {a : Addr} {xs : List V} (e : Ex H H') (h : SqT K H a xs) : SqT K H' a xs := by
  rcases h with h | h
  · exact Or.inl (e.rd h)
  · exact Or.inr h
/-- a dict that a loop has locked is the same dict -/
def str1 : HO → HO
  | .frz _ (.dK k) => .dK k
  | .frz _ (.dT k) => .dT k
  | o => o
def tupO : HO → Bool
  | .tup _ => true
  | _ => false
theorem str1_frzT {o : HO} {ob : Obj} {xs : List V} (h : str1 o = .frz ob (.tup xs)) : o = .frz ob (.tup xs) := by
  unfold str1 at h; split at h <;> first | exact h | cases h
def Tol (H H' : Hp) : Prop := ∀ a o, H a = some o → ∃ o', H' a = some o' ∧ str1 o' = str1 o
theorem Ex.tol {H H' : Hp} (e : Ex H H') : Tol H H' := fun a o h => ⟨o, e a o h, rfl⟩
theorem str1_lst {o : HO} {xs : List V} (h : str1 o = .lst xs) : o = .lst xs := by
  unfold str1 at h; split at h <;> first | exact h | cases h
theorem str1_tup {o : HO} {xs : List V} (h : str1 o = .tup xs) : o = .tup xs := by
  unfold str1 at h; split at h <;> first | exact h | cases h
theorem str1_ins {o : HO} {C dx : Addr} {xs : List (Str × V)} (h : str1 o = .ins C dx xs) : o = .ins C dx xs := by
  unfold str1 at h; split at h <;> first | exact h | cases h
theorem str1_scr {o : HO} {ob : Obj} {xs : List V} (h : str1 o = .frz ob (.lst xs)) : o = .frz ob (.lst xs) := by
  unfold str1 at h; split at h <;> first | exact h | cases h
theorem Tol.lst {H H' : Hp} (e : Tol H H') {a : Addr} {xs : List V} (h : H a = some (.lst xs)) : H' a = some (.lst xs) := by
  obtain ⟨o, h1, h2⟩ := e a _ h; rw [h1, str1_lst h2]
theorem Tol.tup {H H' : Hp} (e : Tol H H') {a : Addr} {xs : List V} (h : H a = some (.tup xs)) : H' a = some (.tup xs) := by
  obtain ⟨o, h1, h2⟩ := e a _ h; rw [h1, str1_tup h2]
theorem Tol.frzT {H H' : Hp} (e : Tol H H') {a : Addr} {ob : Obj} {xs : List V} (h : H a = some (.frz ob (.tup xs))) : H' a = some (.frz ob (.tup xs)) := by
  obtain ⟨o, h1, h2⟩ := e a _ h; rw [h1, str1_frzT h2]
theorem Tol.ins {H H' : Hp} (e : Tol H H') {a C dx : Addr} {xs : List (Str × V)} (h : H a = some (.ins C dx xs)) : H' a = some (.ins C dx xs) := by
  obtain ⟨o, h1, h2⟩ := e a _ h; rw [h1, str1_ins h2]
theorem Tol.sl {K : PySem.W.Frag} {H H' : Hp} {a : Addr} {xs : List V} (e : Tol H H') (h : SqL K H a xs) : SqL K H' a xs := by
  rcases h with (h | ⟨ob, h⟩) | h
  · exact .inl (.inl (e.lst h))
  · obtain ⟨o, h1, h2⟩ := e a _ h
    rw [str1_scr h2] at h1
    exact .inl (.inr ⟨ob, h1⟩)
  · exact .inr h
mutual
/-- the value v stands for the datum, over the frozen heap F -/
inductive Rep (K : PySem.W.Frag) (F : Hp) : V → D → Prop
  | non : Rep K F .non .non
  | bl (b : Bool) : Rep K F (.bl b) (.bl b)
  | int (i : Int) : Rep K F (.int i) (.int i)
  | str (x : Str) : Rep K F (.str x) (.str x)
  | ty (n : String) : Rep K F (.ty n) (.ty n)
  | cls (C : Addr) : Rep K F (.ref C) (.cls C)
  | lst {a : Addr} {vs : List V} {ds : List D} (h : F a = some (.lst vs)) (r : Reps K F vs ds) : Rep K F (.ref a) (.lst ds)
  | scr {a : Addr} {ns : List Int} (h : SqL K F a (ns.map V.int)) : Rep K F (.ref a) (.scr ns)
  | tup {a : Addr} {vs : List V} {ds : List D} (h : F a = some (.tup vs)) (r : Reps K F vs ds) : Rep K F (.ref a) (.tup ds)
  | tupZ {a : Addr} {ob : Obj} {vs : List V} {ds : List D} (h : F a = some (.frz ob (.tup vs))) (g : GoodT ob) (r : Reps K F vs ds) : Rep K F (.ref a) (.tupZ ds)
  | dk {a : Addr} {o : HO} {ks : List Key} {vs : List V} {ds : List D} (h : F a = some o) (hs : str1 o = .dK (ks.zip vs)) (l : ks.length = vs.length) (r : Reps K F vs ds) : Rep K F (.ref a) (.dk ks ds)
  | dt {a : Addr} {o : HO} {ks : List (List Key)} {vs : List V} {ds : List D} (h : F a = some o) (hs : str1 o = .dT (ks.zip vs)) (l : ks.length = vs.length) (r : Reps K F vs ds) : Rep K F (.ref a) (.dt ks ds)
  | ins {a C dx : Addr} {ns : List Str} {vs : List V} {ds : List D} (h : F a = some (.ins C dx (ns.zip vs))) (l : ns.length = vs.length) (r : Reps K F vs ds) : Rep K F (.ref a) (.ins C ns ds)
inductive Reps (K : PySem.W.Frag) (F : Hp) : List V → List D → Prop
  | nil : Reps K F [] []
  | cons {v : V} {d : D} {vs : List V} {ds : List D} (h : Rep K F v d) (r : Reps K F vs ds) : Reps K F (v :: vs) (d :: ds)
end
section
variable {K : PySem.W.Frag} {F F' : Hp}
mutual
theorem Rep.tol (e : Tol F F') : ∀ {v : V} {d : D}, Rep K F v d → Rep K F' v d
  | _, _, .non => .non
  | _, _, .bl b => .bl b
  | _, _, .int i => .int i
  | _, _, .str x => .str x
  | _, _, .ty n => .ty n
  | _, _, .cls C => .cls C
  | _, _, .lst h r => .lst (e.lst h) (Reps.tol e r)
  | _, _, .scr h => .scr (e.sl h)
  | _, _, .tup h r => .tup (e.tup h) (Reps.tol e r)
  | _, _, .tupZ h g r => .tupZ (e.frzT h) g (Reps.tol e r)
  | _, _, .dk h hs l r => by
    obtain ⟨o', h1, h2⟩ := e _ _ h
    exact .dk h1 (h2.trans hs) l (Reps.tol e r)
  | _, _, .dt h hs l r => by
    obtain ⟨o', h1, h2⟩ := e _ _ h
    exact .dt h1 (h2.trans hs) l (Reps.tol e r)
  | _, _, .ins h l r => .ins (e.ins h) l (Reps.tol e r)
theorem Reps.tol (e : Tol F F') : ∀ {vs : List V} {ds : List D}, Reps K F vs ds → Reps K F' vs ds
  | _, _, .nil => .nil
  | _, _, .cons h r => .cons (Rep.tol e h) (Reps.tol e r)
end
theorem Rep.mono (e : Ex F F') {v : V} {d : D} (h : Rep K F v d) : Rep K F' v d := h.tol e.tol
theorem Reps.mono (e : Ex F F') {vs : List V} {ds : List D} (h : Reps K F vs ds) : Reps K F' vs ds := h.tol e.tol
theorem Reps.length : ∀ {vs : List V} {ds : List D}, Reps K F vs ds → vs.length = ds.length
  | _, _, .nil => rfl
  | _, _, .cons _ r => congrArg (· + 1) r.length
theorem Reps.append : ∀ {vs us : List V} {ds es : List D}, Reps K F vs ds → Reps K F us es → Reps K F (vs ++ us) (ds ++ es)
  | _, _, _, _, .nil, s => s
  | _, _, _, _, .cons h r, s => .cons h (r.append s)
theorem Reps.get : ∀ {vs : List V} {ds : List D}, Reps K F vs ds → ∀ {i : Nat} {v : V}, vs[i]? = some v → ∃ d, ds[i]? = some d ∧ Rep K F v d
  | _, _, .nil, i, v, h => by simp at h
  | _, _, .cons (d := d) h r, 0, v, e => by
    simp at e; subst e; exact ⟨d, rfl, h⟩
  | _, _, .cons h r, i + 1, v, e => by
    obtain ⟨d, e1, e2⟩ := r.get (i := i) (by simpa using e)
    exact ⟨d, by simpa using e1, e2⟩
theorem Reps.getD : ∀ {vs : List V} {ds : List D}, Reps K F vs ds → ∀ {i : Nat} {d : D}, ds[i]? = some d → ∃ v, vs[i]? = some v ∧ Rep K F v d
  | _, _, .nil, i, v, h => by simp at h
  | _, _, .cons (v := v) h r, 0, d, e => by
    simp at e; subst e; exact ⟨v, rfl, h⟩
  | _, _, .cons h r, i + 1, v, e => by
    obtain ⟨d, e1, e2⟩ := r.getD (i := i) (by simpa using e)
    exact ⟨d, by simpa using e1, e2⟩
theorem Reps.take : ∀ {vs : List V} {ds : List D} (n : Nat), Reps K F vs ds → Reps K F (vs.take n) (ds.take n)
  | _, _, 0, _ => by simp; exact .nil
  | _, _, n + 1, .nil => by simp; exact .nil
  | _, _, n + 1, .cons h r => by simp; exact .cons h (r.take n)
theorem Reps.drop : ∀ {vs : List V} {ds : List D} (n : Nat), Reps K F vs ds → Reps K F (vs.drop n) (ds.drop n)
  | _, _, 0, r => by simpa using r
  | _, _, n + 1, .nil => by simp; exact .nil
  | _, _, n + 1, .cons h r => by simp; exact r.drop n
theorem Reps.set {v : V} {d : D} (h0 : Rep K F v d) : ∀ {vs : List V} {ds : List D} (n : Nat), Reps K F vs ds → Reps K F (vs.set n v) (ds.set n d)
  | _, _, _, .nil => .nil
  | _, _, 0, .cons h r => .cons h0 r
  | _, _, n + 1, .cons h r => .cons h (Reps.set h0 n r)
theorem Reps.ints {ns : List Int} : Reps K F (ns.map V.int) (ns.map D.int) := by
  induction ns with
  | nil => exact .nil
  | cons n r ih => exact .cons (.int n) ih
theorem Reps.ints_inv : ∀ {vs : List V} {ns : List Int}, Reps K F vs (ns.map D.int) → vs = ns.map V.int
  | vs, [], h => by
    cases h; rfl
  | vs, n :: ns, h => by
    cases h with
    | cons h r =>
      cases h
      rw [r.ints_inv]; rfl
theorem Reps.strs {ns : List Str} : Reps K F (ns.map V.str) (ns.map D.str) := by
  induction ns with
  | nil => exact .nil
  | cons n r ih => exact .cons (.str n) ih
theorem Reps.strs_inv : ∀ {vs : List V} {ns : List Str}, Reps K F vs (ns.map D.str) → vs = ns.map V.str
  | vs, [], h => by
    cases h; rfl
  | vs, n :: ns, h => by
    cases h with
    | cons h r =>
      cases h
      rw [r.strs_inv]; rfl
end
/-! ### pairs of keys and values -/
/-- a pair list with values, and with data -/
inductive KR {κ : Type} (K : PySem.W.Frag) (F : Hp) : List (κ × V) → List (κ × D) → Prop
  | nil : KR K F [] []
  | cons {k : κ} {v : V} {d : D} {ws : List (κ × V)} {kvs : List (κ × D)} (h : Rep K F v d) (r : KR K F ws kvs) : KR K F ((k, v) :: ws) ((k, d) :: kvs)
/-- in its place, or at the end; what stands under a key -/
def gput {κ β : Type} [DecidableEq κ] : List (κ × β) → κ → β → List (κ × β)
  | [], k, b => [(k, b)]
  | p :: r, k, b => if p.1 = k then (k, b) :: r else p :: gput r k b
def gget {κ β : Type} [DecidableEq κ] : List (κ × β) → κ → Option β
  | [], _ => none
  | p :: r, k => if p.1 = k then some p.2 else gget r k
theorem zip_self {α β : Type} : ∀ l : List (α × β), (l.map (·.1)).zip (l.map (·.2)) = l
  | [] => rfl
  | p :: r => by rw [List.map_cons, List.map_cons, List.zip_cons_cons, zip_self r]
section
variable {κ : Type} {K : PySem.W.Frag} {F F' : Hp}
theorem KR.tol (e : Tol F F') : ∀ {ws : List (κ × V)} {kvs : List (κ × D)}, KR K F ws kvs → KR K F' ws kvs
  | _, _, .nil => .nil
  | _, _, .cons h r => .cons (h.tol e) (r.tol e)
theorem KR.mono (e : Ex F F') {ws : List (κ × V)} {kvs : List (κ × D)} (h : KR K F ws kvs) : KR K F' ws kvs := h.tol e.tol
theorem KR.keys : ∀ {ws : List (κ × V)} {kvs : List (κ × D)}, KR K F ws kvs → ws.map (·.1) = kvs.map (·.1)
  | _, _, .nil => rfl
  | _, _, .cons h r => by rw [List.map_cons, List.map_cons, r.keys]
theorem KR.vals : ∀ {ws : List (κ × V)} {kvs : List (κ × D)}, KR K F ws kvs → Reps K F (ws.map (·.2)) (kvs.map (·.2))
  | _, _, .nil => .nil
  | _, _, .cons h r => .cons h r.vals
theorem KR.length {ws : List (κ × V)} {kvs : List (κ × D)} (h : KR K F ws kvs) : ws.length = kvs.length := by
  have := congrArg List.length h.keys; simpa using this
theorem KR.at : ∀ {ws : List (κ × V)} {kvs : List (κ × D)}, KR K F ws kvs → ∀ {i : Nat} {k : κ} {v : V}, ws[i]? = some (k, v) → ∃ d, kvs[i]? = some (k, d) ∧ Rep K F v d
  | _, _, .nil, i, k, v, h => by simp at h
  | _, _, .cons (d := d) h r, 0, k, v, e => by
    simp at e; obtain ⟨rfl, rfl⟩ := e; exact ⟨d, rfl, h⟩
  | _, _, .cons h r, i + 1, k, v, e => by
    obtain ⟨d, e1, e2⟩ := r.at (i := i) (by simpa using e)
    exact ⟨d, by simpa using e1, e2⟩
theorem KR.of : ∀ {ks : List κ} {vs : List V} {ds : List D}, ks.length = vs.length → Reps K F vs ds → KR K F (ks.zip vs) (ks.zip ds)
  | [], vs, ds, _, _ => .nil
  | k :: ks, _, _, l, .nil => by cases l
  | k :: ks, _, _, l, .cons h r => .cons h (KR.of (by simpa using l) r)
theorem putK_eq [DecidableEq κ] (k : κ) (v : V) : ∀ ws : List (κ × V), (ws.map (·.1)).Nodup → putK ws k v = gput ws k v
  | [], _ => rfl
  | p :: r, nd => by
    have nd' := List.nodup_cons.mp nd
    have ih := putK_eq k v r nd'.2
    unfold putK at ih ⊢
    by_cases e : p.1 = k
    · have no : ∀ q ∈ r, ¬ q.1 = k := fun q hq z => nd'.1 (by show p.1 ∈ _; rw [e, ← z]; exact List.mem_map_of_mem hq)
      have id : r.map (fun kv => if kv.1 = k then (kv.1, v) else kv) = r := by
        clear ih nd nd'
        induction r with
        | nil => rfl
        | cons q r ih2 => rw [List.map_cons, if_neg (no q List.mem_cons_self), ih2 fun x hx => no x (List.mem_cons_of_mem _ hx)]
      rw [List.any_cons, decide_eq_true e, Bool.true_or, if_pos rfl, List.map_cons, if_pos e, id]
      unfold gput
      rw [if_pos e, e]
    · rw [List.any_cons, decide_eq_false e, Bool.false_or, List.map_cons, if_neg e]
      unfold gput
      rw [if_neg e, ← ih]
      split <;> rfl
theorem valV_eq [DecidableEq κ] (k : κ) : ∀ ws : List (κ × V), valV ws k = gget ws k
  | [] => rfl
  | p :: r => by
    by_cases e : p.1 = k
    · rw [valV_pos e]; unfold gget; rw [if_pos e]
    · rw [valV_neg e, valV_eq k r]; conv => rhs; unfold gget; rw [if_neg e]
theorem KR.put [DecidableEq κ] {k : κ} {v : V} {d : D} (h : Rep K F v d) : ∀ {ws : List (κ × V)} {kvs : List (κ × D)}, KR K F ws kvs → KR K F (gput ws k v) (gput kvs k d)
  | _, _, .nil => .cons h .nil
  | _, _, .cons (k := k') h' r => by
    unfold gput
    by_cases e : k' = k
    · rw [if_pos e, if_pos e]; exact .cons h r
    · rw [if_neg e, if_neg e]; exact .cons h' (KR.put h r)
theorem KR.get [DecidableEq κ] {k : κ} : ∀ {ws : List (κ × V)} {kvs : List (κ × D)}, KR K F ws kvs → (gget ws k = none ∧ gget kvs k = none) ∨ ∃ v d, gget ws k = some v ∧ gget kvs k = some d ∧ Rep K F v d
  | _, _, .nil => .inl ⟨rfl, rfl⟩
  | _, _, .cons (k := k') h' r => by
    unfold gget
    by_cases e : k' = k
    · rw [if_pos e, if_pos e]; exact .inr ⟨_, _, rfl, rfl, h'⟩
    · rw [if_neg e, if_neg e]; exact r.get
theorem gput_keys {β : Type} [DecidableEq κ] (k : κ) (b : β) : ∀ kvs : List (κ × β), (kvs.map (·.1)).Nodup → ((gput kvs k b).map (·.1)).Nodup ∧ ∀ x, x ∈ (gput kvs k b).map (·.1) ↔ x = k ∨ x ∈ kvs.map (·.1)
  | [], _ => ⟨by simp [gput], fun x => by simp [gput]⟩
  | p :: r, nd => by
    have nd' := List.nodup_cons.mp nd
    obtain ⟨h1, h2⟩ := gput_keys k b r nd'.2
    unfold gput
    by_cases e : p.1 = k
    · rw [if_pos e]
      refine ⟨by rw [List.map_cons]; exact List.nodup_cons.mpr ⟨by show k ∉ _; rw [← e]; exact nd'.1, nd'.2⟩, fun x => ?_⟩
      rw [List.map_cons, List.map_cons, List.mem_cons, List.mem_cons, e]
      constructor
      · rintro (h | h)
        · exact .inl h
        · exact .inr (.inr h)
      · rintro (h | h | h)
        · exact .inl h
        · exact .inl h
        · exact .inr h
    · rw [if_neg e]
      refine ⟨?_, fun x => ?_⟩
      · rw [List.map_cons]
        refine List.nodup_cons.mpr ⟨fun z => ?_, h1⟩
        rcases (h2 _).mp z with z | z
        · exact e z
        · exact nd'.1 z
      · rw [List.map_cons, List.map_cons, List.mem_cons, List.mem_cons, h2]
        constructor
        · rintro (h | h | h)
          · exact .inr (.inl h)
          · exact .inl h
          · exact .inr (.inr h)
        · rintro (h | h | h)
          · exact .inr (.inl h)
          · exact .inl h
          · exact .inr (.inr h)
theorem gput_length {β : Type} [DecidableEq κ] (k : κ) (b : β) : ∀ kvs : List (κ × β), (gput kvs k b).length ≤ kvs.length + 1
  | [] => by simp [gput]
  | p :: r => by
    have := gput_length k b r
    unfold gput
    split
    · simp
    · simp; exact this
end
/-- the frozen part F and the heap H grow: new frozen objects are new; what is tracked stays -/
structure Gr (F H F' H' : Hp) : Prop where
  f : Ex F F'
  h : Ex H H'
  s : Ex F' H'
  n : ∀ p o, H p = some o → tupO o = false → F p = none → F' p = none
theorem Gr.refl {F H : Hp} (e : Ex F H) : Gr F H F H := ⟨Ex.refl F, Ex.refl H, e, fun _ _ _ _ h => h⟩
theorem Gr.trans {F H F1 H1 F2 H2 : Hp} (a : Gr F H F1 H1) (b : Gr F1 H1 F2 H2) : Gr F H F2 H2 :=
  ⟨a.f.trans b.f, a.h.trans b.h, b.s, fun p o h1 t h2 => b.n p o (a.h p o h1) t (a.n p o h1 t h2)⟩
theorem Ex.updB {F H : Hp} (e : Ex F H) {p : Addr} {o : HO} : Ex (upd F p o) (upd H p o) := fun a u h => by
  by_cases z : a = p
  · subst z; rw [upd_same] at h ⊢; exact h
  · rw [upd_ne z] at h ⊢; exact e a u h
theorem Ex.new {H : Hp} {p : Addr} {o : HO} (h : H p = none) : Ex H (L2.upd H p o) := fun a u e => by
  rw [upd_ne (ne_of_none e h)]; exact e
theorem Ex.mut {H H' : Hp} {p : Addr} {o : HO} (e : Ex H H') (h : H p = none) : Ex H (L2.upd H' p o) := fun a u ha => by
  rw [upd_ne (ne_of_none ha h)]; exact e a u ha
theorem Gr.new {F H : Hp} (e : Ex F H) {p : Addr} {o : HO} (h : H p = none) : Gr F H (upd F p o) (upd H p o) :=
  ⟨Ex.new (e.back h), Ex.new h, e.updB, fun q u h1 _ h2 => by rw [upd_ne (ne_of_none h1 h)]; exact h2⟩
/-- a new object that is not frozen -/
theorem Gr.own {F H : Hp} (e : Ex F H) {p : Addr} {o : HO} (h : H p = none) : Gr F H F (upd H p o) :=
  ⟨Ex.refl F, Ex.new h, e.mut (e.back h), fun q u _ _ h2 => h2⟩
/-- a new object is frozen later -/
theorem Gr.freeze {F H F' H' : Hp} (g : Gr F H F' H') {p : Addr} {o : HO} (h : H p = none) (hf : F' p = none) (h' : H' p = some o) : Gr F H (upd F' p o) H' :=
  ⟨g.f.trans (Ex.new hf), g.h, fun a u e => by
    by_cases z : a = p
    · subst z; rw [upd_same] at e; cases e; exact h'
    · rw [upd_ne z] at e; exact g.s a u e, fun q u h1 t h2 => by rw [upd_ne (ne_of_none h1 h)]; exact g.n q u h1 t h2⟩
/-- a tuple that stands is known -/
theorem Gr.tup {F H : Hp} (e : Ex F H) {q : Addr} {vs : List V} (h : H q = some (.tup vs)) : ∃ F', Gr F H F' H ∧ F' q = some (.tup vs) := by
  cases z : F q with
  | some o =>
    have := e q o z
    rw [h] at this; cases this
    exact ⟨F, .refl e, z⟩
  | none =>
    refine ⟨L2.upd F q (.tup vs), ⟨Ex.new z, Ex.refl H, fun a u w => ?_, fun p o h1 t h2 => ?_⟩, upd_same⟩
    · by_cases y : a = q
      · subst y; rw [upd_same] at w; cases w; exact h
      · rw [upd_ne y] at w; exact e a u w
    · by_cases y : p = q
      · subst y; rw [h] at h1; cases h1; cases t
      · rw [upd_ne y]; exact h2
/-- what a slot holds: nothing known, a datum, an own list or dict that still changes -/
inductive Sl where
  | no | d (x : D) | ol (xs : List D) | ok (kvs : List (Key × D)) | ot (kvs : List (List Key × D))
def Sl.own : Sl → Bool
  | .ol _ => true
  | .ok _ => true
  | .ot _ => true
  | _ => false
def OwnR (K : PySem.W.Frag) (H0 F H : Hp) (p : Addr) : Sl → Prop
  | .ol xs => H0 p = none ∧ F p = none ∧ ∃ vs, H p = some (.lst vs) ∧ Reps K F vs xs
  | .ok kvs => H0 p = none ∧ F p = none ∧ ∃ ws, H p = some (.dK ws) ∧ (kvs.map (·.1)).Nodup ∧ KR K F ws kvs
  | .ot kvs => H0 p = none ∧ F p = none ∧ ∃ ws, H p = some (.dT ws) ∧ (kvs.map (·.1)).Nodup ∧ KR K F ws kvs
  | _ => False
def SlR (K : PySem.W.Frag) (H0 F H : Hp) (o : Option V) : Sl → Prop
  | .no => True
  | .d x => ∃ v, o = some v ∧ Rep K F v x
  | .ol xs => ∃ p, o = some (.ref p) ∧ OwnR K H0 F H p (.ol xs)
  | .ok kvs => ∃ p, o = some (.ref p) ∧ OwnR K H0 F H p (.ok kvs)
  | .ot kvs => ∃ p, o = some (.ref p) ∧ OwnR K H0 F H p (.ot kvs)
theorem SlR.own {K : PySem.W.Frag} {H0 F H : Hp} {o : Option V} {x : Sl} (h : x.own = true) : SlR K H0 F H o x ↔ ∃ p, o = some (.ref p) ∧ OwnR K H0 F H p x := by
  cases x <;> first | exact Iff.rfl | cases h
/-- the state of a def's body: (F0, H0) at its entry, (F, H) now, the slots -/
structure RelS (K : PySem.W.Frag) (F0 H0 F H : Hp) (σ : St) (ρ : List Sl) : Prop where
  gr : Gr F0 H0 F H
  len : σ.length = ρ.length
  sl : ∀ (i : Nat) (x : Sl) (o : Option V), ρ[i]? = some x → σ[i]? = some o → SlR K H0 F H o x
  ne : ∀ (i j : Nat) (x y : Sl) (p : Addr), ρ[i]? = some x → ρ[j]? = some y → x.own = true → y.own = true → σ[i]? = some (some (.ref p)) → σ[j]? = some (some (.ref p)) → i = j
section
variable {K : PySem.W.Frag} {F0 H0 F H F' H' : Hp} {σ : St} {ρ : List Sl}
theorem OwnR.grow (g : Gr F H F' H') {p : Addr} {x : Sl} (h : OwnR K H0 F H p x) : OwnR K H0 F' H' p x := by
  cases x with
  | no => exact h
  | d x => exact h
  | ol xs => obtain ⟨a, b, vs, c, d⟩ := h; exact ⟨a, g.n p _ c rfl b, vs, g.h p _ c, d.mono g.f⟩
  | ok kvs => obtain ⟨a, b, vs, c, n, d⟩ := h; exact ⟨a, g.n p _ c rfl b, vs, g.h p _ c, n, d.mono g.f⟩
  | ot kvs => obtain ⟨a, b, vs, c, n, d⟩ := h; exact ⟨a, g.n p _ c rfl b, vs, g.h p _ c, n, d.mono g.f⟩
theorem SlR.grow (g : Gr F H F' H') {o : Option V} {x : Sl} (h : SlR K H0 F H o x) : SlR K H0 F' H' o x := by
  cases x with
  | no => trivial
  | d x => obtain ⟨v, e, r⟩ := h; exact ⟨v, e, r.mono g.f⟩
  | ol xs => obtain ⟨p, e, r⟩ := h; exact ⟨p, e, r.grow g⟩
  | ok kvs => obtain ⟨p, e, r⟩ := h; exact ⟨p, e, r.grow g⟩
  | ot kvs => obtain ⟨p, e, r⟩ := h; exact ⟨p, e, r.grow g⟩
theorem RelS.grow (r : RelS K F0 H0 F H σ ρ) (g : Gr F H F' H') : RelS K F0 H0 F' H' σ ρ :=
  ⟨r.gr.trans g, r.len, fun i x o h1 h2 => (r.sl i x o h1 h2).grow g, r.ne⟩
theorem RelS.at (r : RelS K F0 H0 F H σ ρ) {i : Nat} {x : Sl} (h : ρ[i]? = some x) : ∃ o, σ[i]? = some o ∧ SlR K H0 F H o x := by
  have hi : i < σ.length := by rw [r.len]; exact (List.getElem?_eq_some_iff.mp h).1
  exact ⟨σ[i], List.getElem?_eq_getElem hi, r.sl i x _ h (List.getElem?_eq_getElem hi)⟩
theorem RelS.get (r : RelS K F0 H0 F H σ ρ) {i : Nat} {x : D} (h : ρ[i]? = some (.d x)) : ∃ v, σ[i]? = some (some v) ∧ Rep K F v x := by
  obtain ⟨o, h1, v, rfl, h2⟩ := r.at h
  exact ⟨v, h1, h2⟩
theorem RelS.getOwn (r : RelS K F0 H0 F H σ ρ) {i : Nat} {x : Sl} (h : ρ[i]? = some x) (hx : x.own = true) : ∃ p, σ[i]? = some (some (.ref p)) ∧ OwnR K H0 F H p x := by
  obtain ⟨o, h1, h2⟩ := r.at h
  obtain ⟨p, rfl, h3⟩ := (SlR.own hx).mp h2
  exact ⟨p, h1, h3⟩
theorem get_set {α : Type} {l : List α} {i j : Nat} {a b : α} (h : (l.set i a)[j]? = some b) : (i = j ∧ a = b) ∨ (i ≠ j ∧ l[j]? = some b) := by
  by_cases e : i = j
  · subst e
    by_cases hi : i < l.length
    · rw [List.getElem?_set_self hi] at h; cases h; exact .inl ⟨rfl, rfl⟩
    · rw [List.getElem?_eq_none (by rw [List.length_set]; omega)] at h; cases h
  · rw [List.getElem?_set_ne e] at h; exact .inr ⟨e, h⟩
/-- a slot is given a datum -/
theorem RelS.set (r : RelS K F0 H0 F H σ ρ) (i : Nat) {v : V} {x : D} (h : Rep K F v x) : RelS K F0 H0 F H (σ.set i (some v)) (ρ.set i (.d x)) := by
  refine ⟨r.gr, by rw [List.length_set, List.length_set]; exact r.len, fun j y o h1 h2 => ?_, fun j k y z p h1 h2 o1 o2 h3 h4 => ?_⟩
  · rcases get_set h1 with ⟨e, rfl⟩ | ⟨e, h1⟩
    · rcases get_set h2 with ⟨_, rfl⟩ | ⟨e', _⟩
      · exact ⟨v, rfl, h⟩
      · exact absurd e e'
    · rcases get_set h2 with ⟨e', _⟩ | ⟨_, h2⟩
      · exact absurd e' e
      · exact r.sl j y o h1 h2
  · rcases get_set h1 with ⟨e, rfl⟩ | ⟨e, h1⟩
    · cases o1
    · rcases get_set h2 with ⟨e, rfl⟩ | ⟨e', h2⟩
      · cases o2
      · rcases get_set h3 with ⟨e3, _⟩ | ⟨_, h3⟩
        · exact absurd e3 e
        · rcases get_set h4 with ⟨e4, _⟩ | ⟨_, h4⟩
          · exact absurd e4 e'
          · exact r.ne j k y z p h1 h2 o1 o2 h3 h4
/-- a slot is given a new own object that no other slot owns -/
theorem RelS.setOwn (r : RelS K F0 H0 F H σ ρ) (i : Nat) {p : Addr} {x : Sl} (hx : x.own = true) (h : OwnR K H0 F H p x) (hp : ∀ (j : Nat) (y : Sl), ρ[j]? = some y → y.own = true → j ≠ i → σ[j]? ≠ some (some (.ref p))) :
    RelS K F0 H0 F H (σ.set i (some (.ref p))) (ρ.set i x) := by
  refine ⟨r.gr, by rw [List.length_set, List.length_set]; exact r.len, fun j y o h1 h2 => ?_, fun j k y z q h1 h2 o1 o2 h3 h4 => ?_⟩
  · rcases get_set h1 with ⟨e, rfl⟩ | ⟨e, h1⟩
    · rcases get_set h2 with ⟨_, rfl⟩ | ⟨e', _⟩
      · exact (SlR.own hx).mpr ⟨p, rfl, h⟩
      · exact absurd e e'
    · rcases get_set h2 with ⟨e', _⟩ | ⟨_, h2⟩
      · exact absurd e' e
      · exact r.sl j y o h1 h2
  · rcases get_set h3 with ⟨e3, e3'⟩ | ⟨e3, h3⟩
    · rcases get_set h4 with ⟨e4, _⟩ | ⟨e4, h4⟩
      · omega
      · rcases get_set h2 with ⟨e2, _⟩ | ⟨_, h2⟩
        · exact absurd e2 e4
        · cases e3'
          exact absurd h4 (hp k z h2 o2 (Ne.symm e4))
    · rcases get_set h1 with ⟨e1, _⟩ | ⟨_, h1⟩
      · exact absurd e1 e3
      · rcases get_set h4 with ⟨e4, e4'⟩ | ⟨e4, h4⟩
        · cases e4'
          exact absurd h3 (hp j y h1 o1 (Ne.symm e3))
        · rcases get_set h2 with ⟨e2, _⟩ | ⟨_, h2⟩
          · exact absurd e2 e4
          · exact r.ne j k y z q h1 h2 o1 o2 h3 h4
theorem OwnR.tells {p : Addr} {x : Sl} (h : OwnR K H0 F H p x) : H0 p = none ∧ F p = none ∧ ∃ o, H p = some o := by
  cases x with
  | no => exact h.elim
  | d x => exact h.elim
  | ol xs => obtain ⟨a, b, vs, c, _⟩ := h; exact ⟨a, b, _, c⟩
  | ok kvs => obtain ⟨a, b, vs, c, _⟩ := h; exact ⟨a, b, _, c⟩
  | ot kvs => obtain ⟨a, b, vs, c, _⟩ := h; exact ⟨a, b, _, c⟩
theorem RelS.ex (r : RelS K F0 H0 F H σ ρ) : Ex F H := r.gr.s
/-- another object at p: what does not own p stands -/
theorem OwnR.other {p q : Addr} {o : HO} (e : q ≠ p) {x : Sl} (h : OwnR K H0 F H q x) : OwnR K H0 F (upd H p o) q x := by
  cases x with
  | no => exact h
  | d x => exact h
  | ol xs => obtain ⟨a, b, vs, c, d⟩ := h; exact ⟨a, b, vs, by rw [upd_ne e]; exact c, d⟩
  | ok _ => obtain ⟨a, b, vs, c, d⟩ := h; exact ⟨a, b, vs, by rw [upd_ne e]; exact c, d⟩
  | ot _ => obtain ⟨a, b, vs, c, d⟩ := h; exact ⟨a, b, vs, by rw [upd_ne e]; exact c, d⟩
/-- the own object of slot i changes -/
theorem RelS.mut (r : RelS K F0 H0 F H σ ρ) {i : Nat} {p : Addr} {x y : Sl} {o : HO} (hx : ρ[i]? = some x) (ox : x.own = true) (hp : σ[i]? = some (some (.ref p))) (oy : y.own = true) (hy : OwnR K H0 F (upd H p o) p y) :
    RelS K F0 H0 F (upd H p o) σ (ρ.set i y) := by
  obtain ⟨q, hq, hown⟩ := r.getOwn hx ox
  rw [hp] at hq; cases hq
  obtain ⟨n0, nf, _, _⟩ := hown.tells
  have hi : i < ρ.length := (List.getElem?_eq_some_iff.mp hx).1
  have step : ∀ (j : Nat) (z : Sl) (u : Option V), i ≠ j → ρ[j]? = some z → σ[j]? = some u → SlR K H0 F (upd H p o) u z := fun j z u e h1 h2 => by
    have q := r.sl j z u h1 h2
    by_cases oz : z.own = true
    · obtain ⟨b, rfl, hb⟩ := (SlR.own oz).mp q
      refine (SlR.own oz).mpr ⟨b, rfl, hb.other fun z' => ?_⟩
      subst z'
      exact e (r.ne i j x z b hx h1 ox oz hp h2)
    · cases z with
      | no => trivial
      | d z => exact q
      | ol _ => exact absurd rfl oz
      | ok _ => exact absurd rfl oz
      | ot _ => exact absurd rfl oz
  refine ⟨⟨r.gr.f, r.gr.h.mut n0, r.gr.s.mut nf, r.gr.n⟩, by rw [List.length_set]; exact r.len, fun j z u h1 h2 => ?_, fun j k z w q h1 h2 o1 o2 h3 h4 => ?_⟩
  · rcases get_set h1 with ⟨e, rfl⟩ | ⟨e, h1⟩
    · subst e
      rw [hp] at h2; cases h2
      exact (SlR.own oy).mpr ⟨p, rfl, hy⟩
    · exact step j z u e h1 h2
  · have w1 : ∃ z', ρ[j]? = some z' ∧ z'.own = true := by
      rcases get_set h1 with ⟨e, _⟩ | ⟨e, h1⟩
      · subst e; exact ⟨x, hx, ox⟩
      · exact ⟨z, h1, o1⟩
    have w2 : ∃ z', ρ[k]? = some z' ∧ z'.own = true := by
      rcases get_set h2 with ⟨e, _⟩ | ⟨e, h2⟩
      · subst e; exact ⟨x, hx, ox⟩
      · exact ⟨w, h2, o2⟩
    obtain ⟨z1, a1, b1⟩ := w1
    obtain ⟨z2, a2, b2⟩ := w2
    exact r.ne j k z1 z2 q a1 a2 b1 b2 h3 h4
/-- a new object at p, known to none yet -/
theorem RelS.fresh (r : RelS K F0 H0 F H σ ρ) {p : Addr} (hp : H p = none) : ∀ (j : Nat) (y : Sl), ρ[j]? = some y → y.own = true → σ[j]? ≠ some (some (.ref p)) := fun j y h1 h2 h3 => by
  obtain ⟨q, hq, ho⟩ := r.getOwn h1 h2
  rw [h3] at hq; cases hq
  obtain ⟨_, _, o, e⟩ := ho.tells
  rw [hp] at e; cases e
/-- slots forgotten -/
theorem RelS.forget (r : RelS K F0 H0 F H σ ρ) (i : Nat) (o : Option V) : RelS K F0 H0 F H (σ.set i o) (ρ.set i .no) := by
  refine ⟨r.gr, by rw [List.length_set, List.length_set]; exact r.len, fun j y u h1 h2 => ?_, fun j k y z p h1 h2 o1 o2 h3 h4 => ?_⟩
  · rcases get_set h1 with ⟨e, rfl⟩ | ⟨e, h1⟩
    · trivial
    · rcases get_set h2 with ⟨e', _⟩ | ⟨_, h2⟩
      · exact absurd e' e
      · exact r.sl j y u h1 h2
  · rcases get_set h1 with ⟨e, rfl⟩ | ⟨e, h1⟩
    · cases o1
    · rcases get_set h2 with ⟨e, rfl⟩ | ⟨e', h2⟩
      · cases o2
      · rcases get_set h3 with ⟨e3, _⟩ | ⟨_, h3⟩
        · exact absurd e3 e
        · rcases get_set h4 with ⟨e4, _⟩ | ⟨_, h4⟩
          · exact absurd e4 e'
          · exact r.ne j k y z p h1 h2 o1 o2 h3 h4
/-- the own object of slot i is frozen -/
def Sl.frz : Sl → D
  | .ol xs => .lst xs
  | .ok kvs => .dk (kvs.map (·.1)) (kvs.map (·.2))
  | .ot kvs => .dt (kvs.map (·.1)) (kvs.map (·.2))
  | .d x => x
  | .no => .non
theorem OwnR.frz {p : Addr} {x : Sl} (h : OwnR K H0 F H p x) : ∃ o, H p = some o ∧ Rep K (upd F p o) (.ref p) x.frz := by
  cases x with
  | no => exact h.elim
  | d x => exact h.elim
  | ol xs => obtain ⟨a, b, vs, c, d⟩ := h; exact ⟨_, c, .lst upd_same (d.mono (Ex.new b))⟩
  | ok kvs =>
    obtain ⟨a, b, ws, c, n, d⟩ := h
    exact ⟨_, c, .dk (vs := ws.map (·.2)) upd_same (by rw [← d.keys, zip_self]; rfl) (by rw [← d.keys]; simp) (d.mono (Ex.new b)).vals⟩
  | ot kvs =>
    obtain ⟨a, b, ws, c, n, d⟩ := h
    exact ⟨_, c, .dt (vs := ws.map (·.2)) upd_same (by rw [← d.keys, zip_self]; rfl) (by rw [← d.keys]; simp) (d.mono (Ex.new b)).vals⟩
theorem RelS.freeze (r : RelS K F0 H0 F H σ ρ) {i : Nat} {x : Sl} (hx : ρ[i]? = some x) (ox : x.own = true) : ∃ F', Ex F F' ∧ RelS K F0 H0 F' H σ (ρ.set i (.d x.frz)) := by
  obtain ⟨p, hp, hown⟩ := r.getOwn hx ox
  obtain ⟨n0, nf, _⟩ := hown.tells
  obtain ⟨o, ho, hr⟩ := hown.frz
  have ex : Ex F (upd F p o) := Ex.new nf
  have others : ∀ (j : Nat) (z : Sl) (u : Option V), i ≠ j → ρ[j]? = some z → σ[j]? = some u → SlR K H0 (upd F p o) H u z := fun j z u e h1 h2 => by
    have q := r.sl j z u h1 h2
    by_cases oz : z.own = true
    · obtain ⟨b, rfl, hb⟩ := (SlR.own oz).mp q
      have nb : b ≠ p := fun z' => by
        subst z'
        exact e (r.ne i j x z b hx h1 ox oz hp h2)
      refine (SlR.own oz).mpr ⟨b, rfl, ?_⟩
      cases z with
      | no => exact hb
      | d z => exact hb
      | ol xs => obtain ⟨a, b', vs, c, d⟩ := hb; exact ⟨a, by rw [upd_ne nb]; exact b', vs, c, d.mono ex⟩
      | ok kvs => obtain ⟨a, b', vs, c, n, d⟩ := hb; exact ⟨a, by rw [upd_ne nb]; exact b', vs, c, n, d.mono ex⟩
      | ot kvs => obtain ⟨a, b', vs, c, n, d⟩ := hb; exact ⟨a, by rw [upd_ne nb]; exact b', vs, c, n, d.mono ex⟩
    · cases z with
      | no => trivial
      | d z => obtain ⟨v, e, q⟩ := q; exact ⟨v, e, q.mono ex⟩
      | ol _ => exact absurd rfl oz
      | ok _ => exact absurd rfl oz
      | ot _ => exact absurd rfl oz
  refine ⟨upd F p o, ex, r.gr.freeze n0 nf ho, by rw [List.length_set]; exact r.len, fun j z u h1 h2 => ?_, fun j k z w q h1 h2 o1 o2 h3 h4 => ?_⟩
  · rcases get_set h1 with ⟨e, rfl⟩ | ⟨e, h1⟩
    · subst e
      rw [hp] at h2; cases h2
      exact ⟨_, rfl, hr⟩
    · exact others j z u e h1 h2
  · rcases get_set h1 with ⟨e, rfl⟩ | ⟨e, h1⟩
    · cases o1
    · rcases get_set h2 with ⟨e, rfl⟩ | ⟨e', h2⟩
      · cases o2
      · exact r.ne j k z w q h1 h2 o1 o2 h3 h4
end
end DL
set_option Elab.async false
set_option linter.all false
set_option maxRecDepth 100000
set_option maxHeartbeats 1000000
/-! What readings come to, over plain data: expressions. -/
namespace DL
open PySem L2
section
variable (K : PySem.W.Frag)
def EvD (te : TE) (ρ : List Sl) (d : D) : Prop := ∀ (F0 H0 F H : Hp) (σ : St), RelS K F0 H0 F H σ ρ → ∀ Q : VK, (∀ v F' H', Gr F H F' H' → Rep K F' v d → Q v H') → te σ H Q
/-- a new list that nobody else knows -/
def EvL (te : TE) (ρ : List Sl) (xs : List D) : Prop := ∀ (F0 H0 F H : Hp) (σ : St), RelS K F0 H0 F H σ ρ → ∀ Q : VK,
  (∀ p vs F' H', Gr F H F' H' → H p = none → F' p = none → H' p = some (.lst vs) → Reps K F' vs xs → Q (.ref p) H') → te σ H Q
def TvD (tt : TT) (ρ : List Sl) (b : Bool) : Prop := ∀ (F0 H0 F H : Hp) (σ : St), RelS K F0 H0 F H σ ρ → ∀ Q : Bool → Hp → Prop, (∀ F' H', Gr F H F' H' → Q b H') → tt σ H Q
def AvD (ta : TA) (ρ : List Sl) (ds : List D) : Prop := ∀ (F0 H0 F H : Hp) (σ : St), RelS K F0 H0 F H σ ρ → ∀ Q : List V → Hp → Prop, (∀ vs F' H', Gr F H F' H' → Reps K F' vs ds → Q vs H') → ta σ H Q
/-- a list, or a tuple, that is only read here -/
def EvSL (te : TE) (ρ : List Sl) (ds : List D) : Prop := ∀ (F0 H0 F H : Hp) (σ : St), RelS K F0 H0 F H σ ρ → ∀ Q : VK, (∀ p vs F' H', Gr F H F' H' → SqL K H' p vs → Reps K F' vs ds → Q (.ref p) H') → te σ H Q
def EvST (te : TE) (ρ : List Sl) (ds : List D) : Prop := ∀ (F0 H0 F H : Hp) (σ : St), RelS K F0 H0 F H σ ρ → ∀ Q : VK, (∀ p vs F' H', Gr F H F' H' → SqT K H' p vs → Reps K F' vs ds → Q (.ref p) H') → te σ H Q
/-- operations by values -/
def RvD (r : R2) (x y z : D) : Prop := ∀ (F H : Hp), Ex F H → ∀ (v u : V), Rep K F v x → Rep K F u y → ∀ Q : VK, (∀ w F' H', Gr F H F' H' → Rep K F' w z → Q w H') → r v u H Q
def RvL (r : R2) (x y : D) (zs : List D) : Prop := ∀ (F H : Hp), Ex F H → ∀ (v u : V), Rep K F v x → Rep K F u y → ∀ Q : VK, (∀ p vs F' H', Gr F H F' H' → H p = none → F' p = none → H' p = some (.lst vs) → Reps K F' vs zs → Q (.ref p) H') → r v u H Q
def RcD (r : List V → Hp → VK → Prop) (ds : List D) (z : D) : Prop := ∀ (F H : Hp), Ex F H → ∀ vs, Reps K F vs ds → ∀ Q : VK, (∀ w F' H', Gr F H F' H' → Rep K F' w z → Q w H') → r vs H Q
def RcL (r : List V → Hp → VK → Prop) (ds : List D) (zs : List D) : Prop := ∀ (F H : Hp), Ex F H → ∀ vs, Reps K F vs ds → ∀ Q : VK, (∀ p vs F' H', Gr F H F' H' → H p = none → F' p = none → H' p = some (.lst vs) → Reps K F' vs zs → Q (.ref p) H') → r vs H Q
end
section
variable {K : PySem.W.Frag} {ρ : List Sl} {te ta tb : TE} {d x y z : D} {r r' : R2} {xs ys ds zs : List D} {tt tu : TT} {t : TA}
theorem ev_of_L (h : EvL K te ρ xs) : EvD K te ρ (.lst xs) := fun F0 H0 F H σ R Q q => h F0 H0 F H σ R Q fun p vs F' H' g hp hf h' rs =>
  q _ (upd F' p (.lst vs)) H' (g.freeze hp hf h') (.lst upd_same (rs.mono (Ex.new hf)))
theorem ev_var {i : Nat} (h : ρ[i]? = some (.d x)) : EvD K (tVar i) ρ x := fun F0 H0 F H σ R Q q => by
  obtain ⟨v, h1, h2⟩ := R.get h
  exact ⟨v, h1, q v F H (.refl R.ex) h2⟩
theorem ev_int {i : Int} : EvD K (tC (.int i)) ρ (.int i) := fun F0 H0 F H σ R Q q => q _ F H (.refl R.ex) (.int i)
theorem ev_str {s : Str} : EvD K (tC (.str s)) ρ (.str s) := fun F0 H0 F H σ R Q q => q _ F H (.refl R.ex) (.str s)
theorem ev_bl {b : Bool} : EvD K (tC (.bl b)) ρ (.bl b) := fun F0 H0 F H σ R Q q => q _ F H (.refl R.ex) (.bl b)
theorem ev_non : EvD K (tC .non) ρ .non := fun F0 H0 F H σ R Q q => q _ F H (.refl R.ex) .non
theorem ev_eq (h : EvD K te ρ x) (e : x = y) : EvD K te ρ y := e ▸ h
theorem ev_op (ha : EvD K ta ρ x) (hb : EvD K tb ρ y) (hr : RvD K r x y z) : EvD K (tOp r ta tb) ρ z := fun F0 H0 F H σ R Q q =>
  ha F0 H0 F H σ R _ fun v F1 H1 g1 r1 => hb F0 H0 F1 H1 σ (R.grow g1) _ fun u F2 H2 g2 r2 => hr F2 H2 g2.s v u (r1.mono g2.f) r2 Q fun w F3 H3 g3 r3 => q w F3 H3 ((g1.trans g2).trans g3) r3
theorem evl_op (ha : EvD K ta ρ x) (hb : EvD K tb ρ y) (hr : RvL K r x y zs) : EvL K (tOp r ta tb) ρ zs := fun F0 H0 F H σ R Q q =>
  ha F0 H0 F H σ R _ fun v F1 H1 g1 r1 => hb F0 H0 F1 H1 σ (R.grow g1) _ fun u F2 H2 g2 r2 => hr F2 H2 g2.s v u (r1.mono g2.f) r2 Q fun p vs F3 H3 g3 a b c e => by
    refine q p vs F3 H3 ((g1.trans g2).trans g3) ?_ b c e
    exact g1.h.back (g2.h.back a)
theorem ev_un {ru : V → Hp → VK → Prop} {f : Int → Int} {i : Int} (ha : EvD K ta ρ (.int i)) (hr : ∀ H Q, Q (.int (f i)) H → ru (.int i) H Q) : EvD K (tUn ru ta) ρ (.int (f i)) := fun F0 H0 F H σ R Q q =>
  ha F0 H0 F H σ R _ fun v F1 H1 g1 r1 => by
    cases r1
    exact hr H1 Q (q _ F1 H1 g1 (.int _))
theorem ev_neg {i : Int} (ha : EvD K ta ρ (.int i)) : EvD K (tUn (rU fun i => .int (-i)) ta) ρ (.int (-i)) := ev_un (f := fun i => -i) ha fun H Q q => ⟨i, rfl, q⟩
/-! ### operations -/
theorem rvD_l (h : RvD K r x y z) : RvD K (fun x y H Q => r x y H Q ∨ r' x y H Q) x y z := fun F H e v u a b Q q => .inl (h F H e v u a b Q q)
theorem rvD_r (h : RvD K r' x y z) : RvD K (fun x y H Q => r x y H Q ∨ r' x y H Q) x y z := fun F H e v u a b Q q => .inr (h F H e v u a b Q q)
theorem rvL_l (h : RvL K r x y zs) : RvL K (fun x y H Q => r x y H Q ∨ r' x y H Q) x y zs := fun F H e v u a b Q q => .inl (h F H e v u a b Q q)
theorem rvL_r (h : RvL K r' x y zs) : RvL K (fun x y H Q => r x y H Q ∨ r' x y H Q) x y zs := fun F H e v u a b Q q => .inr (h F H e v u a b Q q)
theorem rv_I0 {g : Int → Int → Int} {i j : Int} : RvD K (rI0 fun i j => .int (g i j)) (.int i) (.int j) (.int (g i j)) := fun F H e v u a b Q q => by
  cases a; cases b
  exact ⟨i, j, rfl, rfl, q _ F H (.refl e) (.int _)⟩
theorem rv_I {C : Int → Int → Prop} {g : Int → Int → Int} {i j : Int} (hc : C i j) : RvD K (rI C fun i j => .int (g i j)) (.int i) (.int j) (.int (g i j)) := fun F H e v u a b Q q => by
  cases a; cases b
  exact ⟨i, j, rfl, rfl, hc, q _ F H (.refl e) (.int _)⟩
theorem rv_B0 {g : Int → Int → Bool} {i j : Int} : RvD K (rI0 fun i j => .bl (g i j)) (.int i) (.int j) (.bl (g i j)) := fun F H e v u a b Q q => by
  cases a; cases b
  exact ⟨i, j, rfl, rfl, q _ F H (.refl e) (.bl _)⟩
theorem rv_addS {s t : Str} (hl : s.length + t.length ≤ 100000) : RvD K (fun x y H Q => ∃ i j, x = .str i ∧ y = .str j ∧ i.length + j.length ≤ sizeLine ∧ Q (.str (i ++ j)) H) (.str s) (.str t) (.str (s ++ t)) := fun F H e v u a b Q q => by
  cases a; cases b
  exact ⟨s, t, rfl, rfl, Nat.le_trans hl (by decide), q _ F H (.refl e) (.str _)⟩
theorem sz_of {n : Nat} (h : n ≤ 16777216) : n ≤ sizeLine := by rw [sizeLine_eq]; exact h
theorem rv_cat (hl : xs.length + ys.length ≤ 16777216) : RvL K rCat (.lst xs) (.lst ys) (xs ++ ys) := fun F H e v u a b Q q => by
  cases a with
  | lst ha ra =>
    cases b with
    | lst hb rb =>
      refine ⟨_, _, _, _, rfl, rfl, e _ _ ha, e _ _ hb, ?_, fun p hp => ?_⟩
      · rw [ra.length, rb.length]; exact sz_of hl
      · exact q p _ F _ (.own e hp) hp (e.back hp) upd_same (ra.append rb)
theorem reps_rep {x : List D} {vs : List V} {F : Hp} (h : Reps K F vs x) : ∀ n : Nat, Reps K F (List.replicate n vs).flatten (List.replicate n x).flatten
  | 0 => .nil
  | n + 1 => by
    rw [List.replicate_succ, List.replicate_succ, List.flatten_cons, List.flatten_cons]
    exact h.append (reps_rep h n)
theorem rv_rep {k : Int} (h1 : -(2 ^ 63) ≤ k) (h2 : k < 2 ^ 63) (hl : xs.length * k.toNat ≤ 16777216) : RvL K rRep (.lst xs) (.int k) (List.replicate k.toNat xs).flatten := fun F H e v u a b Q q => by
  cases a with
  | lst ha ra =>
    cases b
    refine ⟨_, _, _, rfl, rfl, e _ _ ha, h1, h2, ?_, fun p hp => ?_⟩
    · rw [ra.length]; exact sz_of hl
    · exact q p _ F _ (.own e hp) hp (e.back hp) upd_same (reps_rep ra _)
mutual
/-- plain data as the library's data -/
def D.py : D → PyData
  | .non => .none
  | .bl b => .bool b
  | .int i => .int i
  | .str x => .str x
  | .lst ds => .list (D.pys ds)
  | .tup ds => .tuple (D.pys ds)
  | .tupZ ds => .tuple (D.pys ds)
  | .scr ns => .list (ns.map PyData.int)
  | .dk _ _ => .none
  | .dt _ _ => .none
  | .ins _ _ _ => .none
  | .ty _ => .none
  | .cls _ => .none
def D.pys : List D → List PyData
  | [] => []
  | d :: ds => d.py :: D.pys ds
end
mutual
/-- none of dicts and instances within -/
def D.pl : D → Bool
  | .lst ds => D.pls ds
  | .tup ds => D.pls ds
  | .tupZ ds => D.pls ds
  | .dk _ _ => false
  | .dt _ _ => false
  | .ins _ _ _ => false
  | .ty _ => false
  | .cls _ => false
  | _ => true
def D.pls : List D → Bool
  | [] => true
  | d :: ds => d.pl && D.pls ds
end
theorem dp_ints {F : Hp} : ∀ ns : List Int, DpAll K F (ns.map V.int) (ns.map PyData.int)
  | [] => .nil
  | n :: ns => .cons (.int n) (dp_ints ns)
mutual
theorem Rep.dp {F : Hp} : ∀ {v : V} {d : D}, Rep K F v d → d.pl = true → Dp K F v d.py
  | _, _, .non, _ => .non
  | _, _, .bl b, _ => .bl b
  | _, _, .int i, _ => .int i
  | _, _, .str x, _ => .str x
  | _, _, .lst h r, p => .lst (SqL.of h) (Reps.dp r p)
  | _, _, .tup h r, p => .tup (SqT.of h) (Reps.dp r p)
  | _, _, .tupZ h _ r, p => .tup (.inl (.inr ⟨_, h⟩)) (Reps.dp r p)
  | _, _, .scr h, _ => .lst h (dp_ints _)
  | _, _, .dk _ _ _ _, p => nomatch p
  | _, _, .dt _ _ _ _, p => nomatch p
  | _, _, .ins _ _ _, p => nomatch p
  | _, _, .ty _, p => nomatch p
  | _, _, .cls _, p => nomatch p
theorem Reps.dp {F : Hp} : ∀ {vs : List V} {ds : List D}, Reps K F vs ds → D.pls ds = true → DpAll K F vs (D.pys ds)
  | _, _, .nil, _ => .nil
  | _, _, .cons h r, p => by
    have p' := Bool.and_eq_true_iff.mp p
    exact .cons (Rep.dp h p'.1) (Reps.dp r p'.2)
end
mutual
theorem Dp.up {F H : Hp} (e : Ex F H) : ∀ {v : V} {d : PyData}, Dp K F v d → Dp K H v d
  | _, _, .non => .non
  | _, _, .bl b => .bl b
  | _, _, .int i => .int i
  | _, _, .str x => .str x
  | _, _, .lst h r => .lst (e.sl h) (DpAll.up e r)
  | _, _, .tup h r => .tup (e.st h) (DpAll.up e r)
theorem DpAll.up {F H : Hp} (e : Ex F H) : ∀ {vs : List V} {ds : List PyData}, DpAll K F vs ds → DpAll K H vs ds
  | _, _, .nil => .nil
  | _, _, .cons h r => .cons (Dp.up e h) (DpAll.up e r)
end
def D.ok (d : D) : Bool := d.pl && SeqAt.shaped d.py
theorem rv_eqD (hx : x.ok = true) (hy : y.ok = true) : RvD K (rEqD K) x y (.bl (PyData.eqv x.py y.py)) := fun F H e v u a b Q q => by
  have h1 := Bool.and_eq_true_iff.mp hx
  have h2 := Bool.and_eq_true_iff.mp hy
  exact ⟨x.py, y.py, Dp.up e (a.dp h1.1), Dp.up e (b.dp h2.1), h1.2, h2.2, q _ F H (.refl e) (.bl _)⟩
theorem rv_neD (hx : x.ok = true) (hy : y.ok = true) : RvD K (rNeD K) x y (.bl (!PyData.eqv x.py y.py)) := fun F H e v u a b Q q => by
  have h1 := Bool.and_eq_true_iff.mp hx
  have h2 := Bool.and_eq_true_iff.mp hy
  exact ⟨x.py, y.py, Dp.up e (a.dp h1.1), Dp.up e (b.dp h2.1), h1.2, h2.2, q _ F H (.refl e) (.bl _)⟩
/-! ### sequences that are read -/
theorem sl_d (h : EvD K te ρ (.lst ds)) : EvSL K te ρ ds := fun F0 H0 F H σ R Q q => h F0 H0 F H σ R Q fun v F' H' g r => by
  cases r with
  | lst h rs => exact q _ _ F' H' g (SqL.of (g.s _ _ h)) rs
theorem sl_scr {ns : List Int} (h : EvD K te ρ (.scr ns)) : EvSL K te ρ (ns.map D.int) := fun F0 H0 F H σ R Q q => h F0 H0 F H σ R Q fun v F' H' g r => by
  cases r with
  | scr h => exact q _ _ F' H' g (g.s.sl h) Reps.ints
theorem sl_own {i : Nat} (h : ρ[i]? = some (.ol ds)) : EvSL K (tVar i) ρ ds := fun F0 H0 F H σ R Q q => by
  obtain ⟨p, h1, n0, nf, vs, h2, rs⟩ := R.getOwn h rfl
  exact ⟨_, h1, q p vs F H (.refl R.ex) (SqL.of h2) rs⟩
theorem st_d (h : EvD K te ρ (.tup ds)) : EvST K te ρ ds := fun F0 H0 F H σ R Q q => h F0 H0 F H σ R Q fun v F' H' g r => by
  cases r with
  | tup h rs => exact q _ _ F' H' g (SqT.of (g.s _ _ h)) rs
theorem st_dZ (h : EvD K te ρ (.tupZ ds)) : EvST K te ρ ds := fun F0 H0 F H σ R Q q => h F0 H0 F H σ R Q fun v F' H' g r => by
  cases r with
  | tupZ h _ rs => exact q _ _ F' H' g (.inl (.inr ⟨_, g.s _ _ h⟩)) rs
theorem atI_reps {F : Hp} {vs : List V} {ds : List D} (r : Reps K F vs ds) {i : Int} {d : D} (h : atI ds i = some d) : ∃ v, atI vs i = some v ∧ Rep K F v d := by
  unfold atI at h ⊢
  rw [r.length]
  cases e : ixN ds.length i with
  | none => rw [e] at h; cases h
  | some j =>
    rw [e] at h
    exact r.getD h
/-- x[i] of a list, a tuple, a text -/
def rIxA (K : PySem.W.Frag) : R2 := fun x y H Q => rIxL K x y H Q ∨ rIxT K x y H Q ∨ rIxS x y H Q
theorem ix_any {X : Cx} : IxR X (rIxA X.K) := ix_list.or (ix_tup.or ix_str)
theorem ev_ixL {i : Int} (ha : EvSL K ta ρ ds) (hb : EvD K tb ρ (.int i)) (h : atI ds i = some d) : EvD K (tOp (rIxA K) ta tb) ρ d := fun F0 H0 F H σ R Q q =>
  ha F0 H0 F H σ R _ fun p vs F1 H1 g1 s1 r1 => hb F0 H0 F1 H1 σ (R.grow g1) _ fun u F2 H2 g2 r2 => by
    cases r2
    obtain ⟨v, e, rv⟩ := atI_reps (r1.mono g2.f) h
    exact .inl ⟨p, vs, i, v, rfl, rfl, g2.h.sl s1, e, q v F2 H2 (g1.trans g2) rv⟩
theorem ev_ixT {i : Int} (ha : EvST K ta ρ ds) (hb : EvD K tb ρ (.int i)) (h : atI ds i = some d) : EvD K (tOp (rIxA K) ta tb) ρ d := fun F0 H0 F H σ R Q q =>
  ha F0 H0 F H σ R _ fun p vs F1 H1 g1 s1 r1 => hb F0 H0 F1 H1 σ (R.grow g1) _ fun u F2 H2 g2 r2 => by
    cases r2
    obtain ⟨v, e, rv⟩ := atI_reps (r1.mono g2.f) h
    exact .inr (.inl ⟨p, vs, i, v, rfl, rfl, g2.h.st s1, e, q v F2 H2 (g1.trans g2) rv⟩)
theorem ev_ixS {i : Int} {s : Str} {c : Nat} (ha : EvD K ta ρ (.str s)) (hb : EvD K tb ρ (.int i)) (hl : s.length ≤ 100000) (h : atI s.cps.toList i = some c) : EvD K (tOp (rIxA K) ta tb) ρ (.str ⟨#[c]⟩) := fun F0 H0 F H σ R Q q =>
  ha F0 H0 F H σ R _ fun v F1 H1 g1 r1 => hb F0 H0 F1 H1 σ (R.grow g1) _ fun u F2 H2 g2 r2 => by
    cases r1; cases r2
    exact .inr (.inr ⟨s, i, c, rfl, rfl, Nat.le_trans hl (by decide), h, q _ F2 H2 (g1.trans g2) (.str _)⟩)
/-! ### argument lists, displays, calls -/
theorem av_nil : AvD K tNil ρ [] := fun F0 H0 F H σ R Q q => q _ F H (.refl R.ex) .nil
theorem av_cons (h : EvD K te ρ d) (hr : AvD K t ρ ds) : AvD K (tCons te t) ρ (d :: ds) := fun F0 H0 F H σ R Q q =>
  h F0 H0 F H σ R _ fun v F1 H1 g1 r1 => hr F0 H0 F1 H1 σ (R.grow g1) _ fun vs F2 H2 g2 r2 => q _ F2 H2 (g1.trans g2) (.cons (r1.mono g2.f) r2)
theorem av_starL (h : EvSL K te ρ xs) (hr : AvD K t ρ ds) : AvD K (StX.tStar K te t) ρ (xs ++ ds) := fun F0 H0 F H σ R Q q =>
  h F0 H0 F H σ R _ fun p us F1 H1 g1 s1 r1 => ⟨p, us, rfl, .inr s1, hr F0 H0 F1 H1 σ (R.grow g1) _ fun vs F2 H2 g2 r2 => q _ F2 H2 (g1.trans g2) ((r1.mono g2.f).append r2)⟩
theorem av_starT (h : EvST K te ρ xs) (hr : AvD K t ρ ds) : AvD K (StX.tStar K te t) ρ (xs ++ ds) := fun F0 H0 F H σ R Q q =>
  h F0 H0 F H σ R _ fun p us F1 H1 g1 s1 r1 => ⟨p, us, rfl, .inl s1, hr F0 H0 F1 H1 σ (R.grow g1) _ fun vs F2 H2 g2 r2 => q _ F2 H2 (g1.trans g2) ((r1.mono g2.f).append r2)⟩
theorem ev_tup (h : AvD K t ρ ds) (hl : ds.length ≤ 16777216) : EvD K (tTup t) ρ (.tup ds) := fun F0 H0 F H σ R Q q =>
  h F0 H0 F H σ R _ fun vs F1 H1 g1 r1 => ⟨by rw [r1.length]; exact sz_of hl, fun p hp => q _ (upd F1 p (.tup vs)) _ (g1.trans (.new g1.s hp)) (.tup upd_same (r1.mono (Ex.new (g1.s.back hp))))⟩
theorem evl_lst (h : AvD K t ρ ds) (hl : ds.length ≤ 16777216) : EvL K (tLst t) ρ ds := fun F0 H0 F H σ R Q q =>
  h F0 H0 F H σ R _ fun vs F1 H1 g1 r1 => ⟨by rw [r1.length]; exact sz_of hl, fun p hp => q p vs F1 _ (g1.trans (.own g1.s hp)) (g1.h.back hp) (g1.s.back hp) upd_same r1⟩
theorem ev_cb {rc : List V → Hp → VK → Prop} (h : AvD K t ρ ds) (hr : RcD K rc ds z) : EvD K (tCB rc t) ρ z := fun F0 H0 F H σ R Q q =>
  h F0 H0 F H σ R _ fun vs F1 H1 g1 r1 => hr F1 H1 g1.s vs r1 Q fun w F2 H2 g2 r2 => q w F2 H2 (g1.trans g2) r2
theorem evl_cb {rc : List V → Hp → VK → Prop} (h : AvD K t ρ ds) (hr : RcL K rc ds zs) : EvL K (tCB rc t) ρ zs := fun F0 H0 F H σ R Q q =>
  h F0 H0 F H σ R _ fun vs F1 H1 g1 r1 => hr F1 H1 g1.s vs r1 Q fun p us F2 H2 g2 a b c e => q p us F2 H2 (g1.trans g2) (g1.h.back a) b c e
/-- a call on one sequence that is only read -/
theorem ev_cbSL {rc : List V → Hp → VK → Prop} (h : EvSL K te ρ ds) (hr : ∀ (F H : Hp), Ex F H → ∀ p vs, SqL K H p vs → Reps K F vs ds → ∀ Q : VK, (∀ w F' H', Gr F H F' H' → Rep K F' w z → Q w H') → rc [.ref p] H Q) : EvD K (tCB rc (tCons te tNil)) ρ z := fun F0 H0 F H σ R Q q =>
  h F0 H0 F H σ R _ fun p vs F1 H1 g1 s1 r1 => hr F1 H1 g1.s p vs s1 r1 Q fun w F2 H2 g2 r2 => q w F2 H2 (g1.trans g2) r2
theorem evl_cbSL {rc : List V → Hp → VK → Prop} (h : EvSL K te ρ ds) (hr : ∀ (F H : Hp), Ex F H → ∀ p vs, SqL K H p vs → Reps K F vs ds → ∀ Q : VK, (∀ p vs F' H', Gr F H F' H' → H p = none → F' p = none → H' p = some (.lst vs) → Reps K F' vs zs → Q (.ref p) H') → rc [.ref p] H Q) : EvL K (tCB rc (tCons te tNil)) ρ zs := fun F0 H0 F H σ R Q q =>
  h F0 H0 F H σ R _ fun p vs F1 H1 g1 s1 r1 => hr F1 H1 g1.s p vs s1 r1 Q fun w us F2 H2 g2 a b c e => q w us F2 H2 (g1.trans g2) (g1.h.back a) b c e
/-! ### tests, ifs, truth -/
theorem tv_test {b : Bool} (h : EvD K te ρ (.bl b)) : TvD K (tTest te) ρ b := fun F0 H0 F H σ R Q q => h F0 H0 F H σ R _ fun v F1 H1 g1 r1 => by
  cases r1
  exact ⟨b, rfl, q F1 H1 g1⟩
theorem tv_B {b : Bool} (h : EvD K te ρ (.bl b)) : TvD K (tB te) ρ b := fun F0 H0 F H σ R Q q => h F0 H0 F H σ R _ fun v F1 H1 g1 r1 => by
  cases r1
  exact ⟨b, rfl, q F1 H1 g1⟩
theorem tv_eq {a b : Bool} (h : TvD K tt ρ a) (e : a = b) : TvD K tt ρ b := e ▸ h
theorem tv_not {b : Bool} (h : TvD K tt ρ b) : TvD K (tNot tt) ρ (!b) := fun F0 H0 F H σ R Q q => h F0 H0 F H σ R _ fun F1 H1 g1 => q F1 H1 g1
theorem tv_and {a b : Bool} (h1 : TvD K tt ρ a) (h2 : a = true → TvD K tu ρ b) : TvD K (tAnd tt tu) ρ (a && b) := fun F0 H0 F H σ R Q q => h1 F0 H0 F H σ R _ fun F1 H1 g1 => by
  cases a with
  | true =>
    show tu σ H1 Q
    exact h2 rfl F0 H0 F1 H1 σ (R.grow g1) Q fun F2 H2 g2 => q F2 H2 (g1.trans g2)
  | false => exact q F1 H1 g1
theorem tv_or {a b : Bool} (h1 : TvD K tt ρ a) (h2 : a = false → TvD K tu ρ b) : TvD K (tOr tt tu) ρ (a || b) := fun F0 H0 F H σ R Q q => h1 F0 H0 F H σ R _ fun F1 H1 g1 => by
  cases a with
  | true => exact q F1 H1 g1
  | false =>
    show tu σ H1 Q
    exact h2 rfl F0 H0 F1 H1 σ (R.grow g1) Q fun F2 H2 g2 => q F2 H2 (g1.trans g2)
theorem ev_andV {a b : Bool} (h1 : EvD K ta ρ (.bl a)) (h2 : a = true → EvD K tb ρ (.bl b)) : EvD K (tAndV ta tb) ρ (.bl (a && b)) := fun F0 H0 F H σ R Q q => h1 F0 H0 F H σ R _ fun v F1 H1 g1 r1 => by
  cases r1
  refine ⟨a, rfl, ?_⟩
  cases a with
  | true =>
    show tb σ H1 Q
    exact h2 rfl F0 H0 F1 H1 σ (R.grow g1) Q fun w F2 H2 g2 r2 => q w F2 H2 (g1.trans g2) r2
  | false => exact q _ F1 H1 g1 (.bl _)
theorem ev_orV {a b : Bool} (h1 : EvD K ta ρ (.bl a)) (h2 : a = false → EvD K tb ρ (.bl b)) : EvD K (tOrV ta tb) ρ (.bl (a || b)) := fun F0 H0 F H σ R Q q => h1 F0 H0 F H σ R _ fun v F1 H1 g1 r1 => by
  cases r1
  refine ⟨a, rfl, ?_⟩
  cases a with
  | true => exact q _ F1 H1 g1 (.bl _)
  | false =>
    show tb σ H1 Q
    exact h2 rfl F0 H0 F1 H1 σ (R.grow g1) Q fun w F2 H2 g2 r2 => q w F2 H2 (g1.trans g2) r2
theorem ev_notV {a : Bool} (h1 : EvD K ta ρ (.bl a)) : EvD K (tNotV ta) ρ (.bl (!a)) := fun F0 H0 F H σ R Q q => h1 F0 H0 F H σ R _ fun v F1 H1 g1 r1 => by
  cases r1
  exact ⟨a, rfl, q _ F1 H1 g1 (.bl _)⟩
theorem ev_if {b : Bool} (h : TvD K tt ρ b) (h1 : b = true → EvD K ta ρ d) (h2 : b = false → EvD K tb ρ d) : EvD K (tIf tt ta tb) ρ d := fun F0 H0 F H σ R Q q => h F0 H0 F H σ R _ fun F1 H1 g1 => by
  cases b with
  | true =>
    show ta σ H1 Q
    exact h1 rfl F0 H0 F1 H1 σ (R.grow g1) Q fun w F2 H2 g2 r2 => q w F2 H2 (g1.trans g2) r2
  | false =>
    show tb σ H1 Q
    exact h2 rfl F0 H0 F1 H1 σ (R.grow g1) Q fun w F2 H2 g2 r2 => q w F2 H2 (g1.trans g2) r2
/-- len of a list, a tuple, a text -/
def rLenA (K : PySem.W.Frag) : List V → Hp → VK → Prop := fun xs H Q => (∃ p ys, xs = [.ref p] ∧ (SqL K H p ys ∨ SqT K H p ys) ∧ Q (.int ys.length) H)
theorem cr_lenA {X : Cx} : CallR X (.builtin "len") (rLenA X.K) := call_len_seq
theorem ev_lenL (h : EvSL K te ρ ds) : EvD K (tCB (rLenA K) (tCons te tNil)) ρ (.int (ds.length : Int)) := ev_cbSL h fun F H e p vs s r Q q => ⟨p, vs, rfl, .inl s, by rw [r.length]; exact q _ F H (.refl e) (.int _)⟩
theorem ev_lenT (h : EvST K te ρ ds) : EvD K (tCB (rLenA K) (tCons te tNil)) ρ (.int (ds.length : Int)) := fun F0 H0 F H σ R Q q =>
  h F0 H0 F H σ R _ fun p vs F1 H1 g1 s1 r1 => ⟨p, vs, rfl, .inr s1, by rw [r1.length]; exact q _ F1 H1 g1 (.int _)⟩
end
end DL
set_option Elab.async false
set_option linter.all false
set_option maxRecDepth 100000
set_option maxHeartbeats 1000000
/-! What readings come to, over plain data: statements, loops, comprehensions, calls. -/
namespace DL
open PySem L2
/-- how a statement ends -/
inductive Out where
  | nx (ρ : List Sl) | rt (d : D) | bk (ρ : List Sl) | ct (ρ : List Sl) | er (C : Addr) (fs : List (Str × D)) (ρ : List Sl)
/-- the fields of an exception -/
def XR (K : PySem.W.Frag) (F H : Hp) (od : Option Addr) (fs : List (Str × D)) : Prop :=
  (fs = [] ∧ od = none) ∨ fs ≠ [] ∧ ∃ d fv, od = some d ∧ H d = some (.xd fv) ∧ ∀ f x, fs.lookup f = some x → ∃ v, fv.lookup f = some v ∧ Rep K F v x
def Post (K : PySem.W.Frag) (F0 H0 F : Hp) (E : Ends) (W : WX) : Out → Prop
  | .nx ρ => ∀ σ F' H', Ex F F' → RelS K F0 H0 F' H' σ ρ → E.nx σ H'
  | .rt d => ∀ v F' H', Ex F F' → Gr F0 H0 F' H' → Rep K F' v d → E.rt v H'
  | .bk ρ => ∀ σ F' H', Ex F F' → RelS K F0 H0 F' H' σ ρ → E.bk σ H'
  | .ct ρ => ∀ σ F' H', Ex F F' → RelS K F0 H0 F' H' σ ρ → E.ct σ H'
  | .er C fs ρ => ∀ od σ F' H', Ex F F' → RelS K F0 H0 F' H' σ ρ → XR K F' H' od fs → W (.ref C) od σ H'
theorem Post.up {K : PySem.W.Frag} {F0 H0 F F1 : Hp} {E : Ends} {W : WX} {o : Out} (e : Ex F F1) (p : Post K F0 H0 F E W o) : Post K F0 H0 F1 E W o := by
  cases o with
  | nx ρ => exact fun σ F' H' x r => p σ F' H' (e.trans x) r
  | rt d => exact fun v F' H' x g r => p v F' H' (e.trans x) g r
  | bk ρ => exact fun σ F' H' x r => p σ F' H' (e.trans x) r
  | ct ρ => exact fun σ F' H' x r => p σ F' H' (e.trans x) r
  | er C fs ρ => exact fun od σ F' H' x g r => p od σ F' H' (e.trans x) g r
def SvD (K : PySem.W.Frag) (W : WX) (ts : TS) (ρ : List Sl) (o : Out) : Prop :=
  ∀ (E : Ends) (F0 H0 F H : Hp) (σ : St), RelS K F0 H0 F H σ ρ → Post K F0 H0 F E W o → ts E σ H
def Out.stops : Out → Bool
  | .nx _ => false
  | _ => true
section
variable {K : PySem.W.Frag} {W : WX} {ρ ρ' : List Sl} {te ta tb : TE} {d x y z : D} {xs ys ds zs : List D} {tt tu : TT} {t u : TS} {o : Out} {i : Nat}
theorem sv_next : SvD K W tNext ρ (.nx ρ) := fun E F0 H0 F H σ R p => p σ F H (Ex.refl F) R
theorem sv_seq (h1 : SvD K W t ρ (.nx ρ')) (h2 : SvD K W u ρ' o) : SvD K W (tSeq t u) ρ o := fun E F0 H0 F H σ R p =>
  h1 _ F0 H0 F H σ R fun σ' F' H' e R' => h2 E F0 H0 F' H' σ' R' (p.up e)
theorem sv_stop (h1 : SvD K W t ρ o) (hs : o.stops = true := by rfl) : SvD K W (tSeq t u) ρ o := fun E F0 H0 F H σ R p =>
  h1 _ F0 H0 F H σ R (by cases o with
    | nx ρ => cases hs
    | rt d => exact p
    | bk ρ => exact p
    | ct ρ => exact p
    | er C fs ρ => exact p)
theorem sv_asg (h : EvD K te ρ d) : SvD K W (tAsg te (gName i)) ρ (.nx (ρ.set i (.d d))) := fun E F0 H0 F H σ R p =>
  h F0 H0 F H σ R _ fun v F1 H1 g1 r1 => p _ F1 H1 g1.f ((R.grow g1).set i r1)
theorem sv_asgL (h : EvL K te ρ xs) : SvD K W (tAsg te (gName i)) ρ (.nx (ρ.set i (.ol xs))) := fun E F0 H0 F H σ R p =>
  h F0 H0 F H σ R _ fun a vs F1 H1 g1 hp hf h1 r1 => p _ F1 H1 g1.f ((R.grow g1).setOwn i rfl ⟨R.gr.h.back hp, hf, vs, h1, r1⟩ fun j y h2 h3 _ h4 => R.fresh hp j y h2 h3 h4)
theorem sv_asgDK : SvD K W (tAsg tDNewK (gName i)) ρ (.nx (ρ.set i (.ok []))) := fun E F0 H0 F H σ R p => fun a ha =>
  p _ F _ (Ex.refl F) ((R.grow (.own R.ex ha)).setOwn i rfl ⟨R.gr.h.back ha, R.ex.back ha, [], upd_same, .nil, .nil⟩ fun j y h2 h3 _ h4 => R.fresh ha j y h2 h3 h4)
theorem sv_asgDT : SvD K W (tAsg tDNewT (gName i)) ρ (.nx (ρ.set i (.ot []))) := fun E F0 H0 F H σ R p => fun a ha =>
  p _ F _ (Ex.refl F) ((R.grow (.own R.ex ha)).setOwn i rfl ⟨R.gr.h.back ha, R.ex.back ha, [], upd_same, .nil, .nil⟩ fun j y h2 h3 _ h4 => R.fresh ha j y h2 h3 h4)
theorem sv_if {b : Bool} (h : TvD K tt ρ b) (h1 : b = true → SvD K W t ρ o) (h2 : b = false → SvD K W u ρ o) : SvD K W (tIfS tt t u) ρ o := fun E F0 H0 F H σ R p =>
  h F0 H0 F H σ R _ fun F1 H1 g1 => by
    cases b with
    | true =>
      show t E σ H1
      exact h1 rfl E F0 H0 F1 H1 σ (R.grow g1) (p.up g1.f)
    | false =>
      show u E σ H1
      exact h2 rfl E F0 H0 F1 H1 σ (R.grow g1) (p.up g1.f)
theorem sv_ifT (h : TvD K tt ρ true) (h1 : SvD K W t ρ o) : SvD K W (tIfS tt t u) ρ o := sv_if h (fun _ => h1) (fun e => nomatch e)
theorem sv_ifF (h : TvD K tt ρ false) (h2 : SvD K W u ρ o) : SvD K W (tIfS tt t u) ρ o := sv_if h (fun e => nomatch e) (fun _ => h2)
theorem sv_ret (h : EvD K te ρ d) : SvD K W (tRet te) ρ (.rt d) := fun E F0 H0 F H σ R p =>
  h F0 H0 F H σ R _ fun v F1 H1 g1 r1 => p v F1 H1 g1.f (R.gr.trans g1) r1
theorem sv_retE (h : EvD K te ρ d) (e : d = x) : SvD K W (tRet te) ρ (.rt x) := e ▸ sv_ret h
theorem sv_retN : SvD K W tRetN ρ (.rt .non) := fun E F0 H0 F H σ R p => p .non F H (Ex.refl F) R.gr .non
theorem sv_drop (h : EvD K te ρ d) : SvD K W (tDrop te) ρ (.nx ρ) := fun E F0 H0 F H σ R p =>
  h F0 H0 F H σ R _ fun v F1 H1 g1 r1 => p σ F1 H1 g1.f (R.grow g1)
theorem sv_brk : SvD K W tBreak ρ (.bk ρ) := fun E F0 H0 F H σ R p => p σ F H (Ex.refl F) R
theorem sv_cont : SvD K W tCont ρ (.ct ρ) := fun E F0 H0 F H σ R p => p σ F H (Ex.refl F) R
theorem sv_to {o' : Out} (h : SvD K W t ρ o) (e : o = o') : SvD K W t ρ o' := e ▸ h
theorem sv_from {ρ1 : List Sl} (h : SvD K W t ρ1 o) (e : ρ = ρ1) : SvD K W t ρ o := e ▸ h
/-- the own object of slot i is frozen -/
theorem sv_frz {s : Sl} (i : Nat) (hx : ρ[i]? = some s) (ox : s.own = true) (h : SvD K W t (ρ.set i (.d s.frz)) o) : SvD K W t ρ o := fun E F0 H0 F H σ R p => by
  obtain ⟨F1, e, R1⟩ := R.freeze hx ox
  exact h E F0 H0 F1 H σ R1 (p.up e)
/-- slots forgotten -/
theorem set_same {α : Type} : ∀ {l : List α} {i : Nat} {a : α}, l[i]? = some a → l.set i a = l
  | [], i, a, h => by simp at h
  | b :: l, 0, a, h => by
    simp at h; subst h; rfl
  | b :: l, i + 1, a, h => by
    rw [List.set_cons_succ, set_same (l := l) (by simpa using h)]
theorem sv_forget (i : Nat) (h : SvD K W t (ρ.set i .no) o) : SvD K W t ρ o := fun E F0 H0 F H σ R p => by
  cases e : σ[i]? with
  | none =>
    have hl : ρ.length ≤ i := by rw [← R.len]; exact List.getElem?_eq_none_iff.mp e
    have q : ρ.set i .no = ρ := List.set_eq_of_length_le hl
    rw [q] at h
    exact h E F0 H0 F H σ R p
  | some v =>
    have R1 := R.forget i v
    rw [set_same e] at R1
    exact h E F0 H0 F H σ R1 p
/-! ### own lists and dicts change -/
theorem sv_app (hx : ρ[i]? = some (.ol xs)) (h : EvD K te ρ d) (hl : xs.length < 16777216) : SvD K W (tDrop (tBM K "list" rAppend (tVar i) (tCons te tNil))) ρ (.nx (ρ.set i (.ol (xs ++ [d])))) := fun E F0 H0 F H σ R p => by
  obtain ⟨a, h1, n0, nf, vs, h2, rs⟩ := R.getOwn hx rfl
  refine ⟨_, h1, Or.inl ⟨rfl, _, Or.inl (Or.inl h2)⟩, ?_⟩
  refine h F0 H0 F H σ R _ fun v F1 H1 g1 r1 => ?_
  refine ⟨a, vs, v, rfl, rfl, g1.h _ _ h2, ?_, ?_⟩
  · rw [rs.length]; exact sz_of hl
  · refine p _ F1 _ g1.f ((R.grow g1).mut hx rfl h1 (y := .ol (xs ++ [d])) rfl ⟨n0, g1.n a _ h2 rfl nf, _, upd_same, (rs.mono g1.f).append (.cons r1 .nil)⟩)
/-! ### dicts -/
def kD : Key → D
  | .inl i => .int i
  | .inr s => .str s
def EvDK (K : PySem.W.Frag) (te : TE) (ρ : List Sl) (kvs : List (Key × D)) : Prop := ∀ (F0 H0 F H : Hp) (σ : St), RelS K F0 H0 F H σ ρ → ∀ Q : VK, (∀ a ws F' H', Gr F H F' H' → Rd H' a (.dK ws) → KR K F' ws kvs → Q (.ref a) H') → te σ H Q
def EvDT (K : PySem.W.Frag) (te : TE) (ρ : List Sl) (kvs : List (List Key × D)) : Prop := ∀ (F0 H0 F H : Hp) (σ : St), RelS K F0 H0 F H σ ρ → ∀ Q : VK, (∀ a ws F' H', Gr F H F' H' → Rd H' a (.dT ws) → KR K F' ws kvs → Q (.ref a) H') → te σ H Q
theorem rd_str {F H : Hp} {a : Addr} {o : HO} (e : Ex F H) (h : F a = some o) : (∀ k, str1 o = .dK k → Rd H a (.dK k)) ∧ ∀ k, str1 o = .dT k → Rd H a (.dT k) := by
  have h' := e a o h
  refine ⟨fun k z => ?_, fun k z => ?_⟩
  · unfold str1 at z
    split at z
    · cases z; exact .inr ⟨_, h'⟩
    · cases z
    · subst z; exact .inl h'
  · unfold str1 at z
    split at z
    · cases z
    · cases z; exact .inr ⟨_, h'⟩
    · subst z; exact .inl h'
theorem dk_d {ks : List Key} (h : EvD K te ρ (.dk ks ds)) : EvDK K te ρ (ks.zip ds) := fun F0 H0 F H σ R Q q => h F0 H0 F H σ R Q fun v F' H' g r => by
  cases r with
  | dk h hs l rs => exact q _ _ F' H' g ((rd_str g.s h).1 _ hs) (KR.of l rs)
theorem dt_d {ks : List (List Key)} (h : EvD K te ρ (.dt ks ds)) : EvDT K te ρ (ks.zip ds) := fun F0 H0 F H σ R Q q => h F0 H0 F H σ R Q fun v F' H' g r => by
  cases r with
  | dt h hs l rs => exact q _ _ F' H' g ((rd_str g.s h).2 _ hs) (KR.of l rs)
theorem dk_own {kvs : List (Key × D)} (h : ρ[i]? = some (.ok kvs)) : EvDK K (tVar i) ρ kvs := fun F0 H0 F H σ R Q q => by
  obtain ⟨p, h1, n0, nf, ws, h2, nd, rs⟩ := R.getOwn h rfl
  exact ⟨_, h1, q p ws F H (.refl R.ex) (.inl h2) rs⟩
theorem dt_own {kvs : List (List Key × D)} (h : ρ[i]? = some (.ot kvs)) : EvDT K (tVar i) ρ kvs := fun F0 H0 F H σ R Q q => by
  obtain ⟨p, h1, n0, nf, ws, h2, nd, rs⟩ := R.getOwn h rfl
  exact ⟨_, h1, q p ws F H (.refl R.ex) (.inl h2) rs⟩
theorem rep_kD {F : Hp} {v : V} {k : Key} (h : Rep K F v (kD k)) : v = kV k := by
  cases k with
  | inl i => cases h; rfl
  | inr s => cases h; rfl
theorem rep_key {F : Hp} (k : Key) : Rep K F (kV k) (kD k) := by
  cases k with
  | inl i => exact .int i
  | inr s => exact .str s
theorem reps_keys {F : Hp} : ∀ ks : List Key, Reps K F (ks.map kV) (ks.map kD)
  | [] => .nil
  | k :: ks => .cons (rep_key k) (reps_keys ks)
theorem reps_kD {F : Hp} : ∀ {vs : List V} {ks : List Key}, Reps K F vs (ks.map kD) → vs = ks.map kV
  | vs, [], h => by cases h; rfl
  | vs, k :: ks, h => by
    cases h with
    | cons h r => rw [rep_kD h, reps_kD r]; rfl
theorem rep_kT {F : Hp} {v : V} {ks : List Key} (h : Rep K F v (.tup (ks.map kD))) : ∃ b, v = .ref b ∧ F b = some (.tup (ks.map kV)) := by
  cases h with
  | tup h r => rw [reps_kD r] at h; exact ⟨_, rfl, h⟩
theorem rd_ex {H H' : Hp} (e : Ex H H') {a : Addr} {u : HO} (h : Rd H a u) : Rd H' a u := e.rd h
theorem ev_dgetK {k : Key} {kvs : List (Key × D)} (ha : EvDK K ta ρ kvs) (hb : EvD K tb ρ (kD k)) (h : gget kvs k = some d) : EvD K (tDGet ta tb) ρ d := fun F0 H0 F H σ R Q q =>
  ha F0 H0 F H σ R _ fun a ws F1 H1 g1 s1 r1 => hb F0 H0 F1 H1 σ (R.grow g1) _ fun u F2 H2 g2 r2 => by
    rcases (r1.mono g2.f).get (k := k) with ⟨_, z⟩ | ⟨v, d', z1, z2, z3⟩
    · rw [h] at z; cases z
    · rw [h] at z2; cases z2
      refine ⟨a, v, rfl, .inl ⟨ws, k, g2.h.rd s1, rep_kD r2, ?_⟩, q v F2 H2 (g1.trans g2) z3⟩
      rw [valV_eq]; exact z1.symm
theorem ev_dgetT {k : List Key} {kvs : List (List Key × D)} (ha : EvDT K ta ρ kvs) (hb : EvD K tb ρ (.tup (k.map kD))) (h : gget kvs k = some d) : EvD K (tDGet ta tb) ρ d := fun F0 H0 F H σ R Q q =>
  ha F0 H0 F H σ R _ fun a ws F1 H1 g1 s1 r1 => hb F0 H0 F1 H1 σ (R.grow g1) _ fun u F2 H2 g2 r2 => by
    rcases (r1.mono g2.f).get (k := k) with ⟨_, z⟩ | ⟨v, d', z1, z2, z3⟩
    · rw [h] at z; cases z
    · rw [h] at z2; cases z2
      obtain ⟨b, rfl, hb2⟩ := rep_kT r2
      refine ⟨a, v, rfl, .inr ⟨ws, k, b, g2.h.rd s1, rfl, g2.s _ _ hb2, ?_⟩, q v F2 H2 (g1.trans g2) z3⟩
      rw [valV_eq]; exact z1.symm
theorem isD_k {H : Hp} {a : Addr} {ws : List (Key × V)} (h : Rd H a (.dK ws)) : IsD H a := .inl ⟨ws, h⟩
theorem isD_t {H : Hp} {a : Addr} {ws : List (List Key × V)} (h : Rd H a (.dT ws)) : IsD H a := .inr ⟨ws, h⟩
theorem ev_get2K {k : Key} {kvs : List (Key × D)} {tc : TE} (ha : EvDK K ta ρ kvs) (hb : EvD K tb ρ (kD k)) (hc : EvD K tc ρ x) : EvD K (tDGet2 ta tb tc) ρ ((gget kvs k).getD x) := fun F0 H0 F H σ R Q q =>
  ha F0 H0 F H σ R _ fun a ws F1 H1 g1 s1 r1 => ⟨a, rfl, isD_k s1, hb F0 H0 F1 H1 σ (R.grow g1) _ fun u F2 H2 g2 r2 => hc F0 H0 F2 H2 σ (R.grow (g1.trans g2)) _ fun w F3 H3 g3 r3 => by
    refine ⟨valV ws k, .inl ⟨ws, k, (g2.trans g3).h.rd s1, rep_kD r2, rfl⟩, ?_⟩
    rcases (r1.mono (g2.trans g3).f).get (k := k) with ⟨z1, z2⟩ | ⟨v, d', z1, z2, z3⟩
    · rw [valV_eq, z1]; rw [z2] at q; exact q w F3 H3 ((g1.trans g2).trans g3) r3
    · rw [valV_eq, z1]; rw [z2] at q; exact q v F3 H3 ((g1.trans g2).trans g3) z3⟩
theorem ev_get2T {k : List Key} {kvs : List (List Key × D)} {tc : TE} (ha : EvDT K ta ρ kvs) (hb : EvD K tb ρ (.tup (k.map kD))) (hc : EvD K tc ρ x) : EvD K (tDGet2 ta tb tc) ρ ((gget kvs k).getD x) := fun F0 H0 F H σ R Q q =>
  ha F0 H0 F H σ R _ fun a ws F1 H1 g1 s1 r1 => ⟨a, rfl, isD_t s1, hb F0 H0 F1 H1 σ (R.grow g1) _ fun u F2 H2 g2 r2 => hc F0 H0 F2 H2 σ (R.grow (g1.trans g2)) _ fun w F3 H3 g3 r3 => by
    obtain ⟨b, rfl, hb2⟩ := rep_kT r2
    refine ⟨valV ws k, .inr ⟨ws, k, b, (g2.trans g3).h.rd s1, rfl, g3.h _ _ (g2.s _ _ hb2), rfl⟩, ?_⟩
    rcases (r1.mono (g2.trans g3).f).get (k := k) with ⟨z1, z2⟩ | ⟨v, d', z1, z2, z3⟩
    · rw [valV_eq, z1]; rw [z2] at q; exact q w F3 H3 ((g1.trans g2).trans g3) r3
    · rw [valV_eq, z1]; rw [z2] at q; exact q v F3 H3 ((g1.trans g2).trans g3) z3⟩
theorem sv_putK {k : Key} {kvs : List (Key × D)} (hx : ρ[i]? = some (.ok kvs)) (hv : EvD K ta ρ d) (hk : EvD K tb ρ (kD k)) (hl : kvs.length < 16777216) :
    SvD K W (sDPut (tVar i) tb ta) ρ (.nx (ρ.set i (.ok (gput kvs k d)))) := fun E F0 H0 F H σ R p => by
  refine hv F0 H0 F H σ R _ fun v F1 H1 g1 r1 => ?_
  obtain ⟨a, h1, n0, nf, ws, h2, nd, rs⟩ := (R.grow g1).getOwn hx rfl
  refine ⟨_, h1, hk F0 H0 F1 H1 σ (R.grow g1) _ fun u F2 H2 g2 r2 => ?_⟩
  refine ⟨a, _, rfl, .inl ⟨ws, k, g2.h _ _ h2, rep_kD r2, by rw [rs.length]; exact sz_of hl, rfl⟩, ?_⟩
  have R2 := (R.grow (g1.trans g2))
  refine p _ F2 _ (g1.trans g2).f (R2.mut hx rfl h1 (y := .ok (gput kvs k d)) rfl ⟨n0, g2.n a _ h2 rfl nf, gput ws k v, ?_, (gput_keys k d kvs nd).1, KR.put (r1.mono g2.f) (rs.mono g2.f)⟩)
  rw [upd_same, putK_eq k v ws (by rw [rs.keys]; exact nd)]
theorem sv_putT {k : List Key} {kvs : List (List Key × D)} (hx : ρ[i]? = some (.ot kvs)) (hv : EvD K ta ρ d) (hk : EvD K tb ρ (.tup (k.map kD))) (hl : kvs.length < 16777216) :
    SvD K W (sDPut (tVar i) tb ta) ρ (.nx (ρ.set i (.ot (gput kvs k d)))) := fun E F0 H0 F H σ R p => by
  refine hv F0 H0 F H σ R _ fun v F1 H1 g1 r1 => ?_
  obtain ⟨a, h1, n0, nf, ws, h2, nd, rs⟩ := (R.grow g1).getOwn hx rfl
  refine ⟨_, h1, hk F0 H0 F1 H1 σ (R.grow g1) _ fun u F2 H2 g2 r2 => ?_⟩
  obtain ⟨b, rfl, hb2⟩ := rep_kT r2
  refine ⟨a, _, rfl, .inr ⟨ws, k, b, g2.h _ _ h2, rfl, g2.s _ _ hb2, by rw [rs.length]; exact sz_of hl, rfl⟩, ?_⟩
  have R2 := (R.grow (g1.trans g2))
  refine p _ F2 _ (g1.trans g2).f (R2.mut hx rfl h1 (y := .ot (gput kvs k d)) rfl ⟨n0, g2.n a _ h2 rfl nf, gput ws k v, ?_, (gput_keys k d kvs nd).1, KR.put (r1.mono g2.f) (rs.mono g2.f)⟩)
  rw [upd_same, putK_eq k v ws (by rw [rs.keys]; exact nd)]
/-! ### targets -/
/-- a target takes the datum d: the slots behind; only the slots is change -/
def TgD (K : PySem.W.Frag) (g : TG) (is : List Nat) (d : D) (ρ ρ' : List Sl) : Prop := (∀ (j : Nat) (y : Sl), ρ'[j]? = some y → y.own = true → j ∉ is ∧ ρ[j]? = some y) ∧ ∀ (F0 H0 F H : Hp) (σ : St) (v : V), RelS K F0 H0 F H σ ρ → Rep K F v d → ∀ Q : St → Hp → Prop,
  (∀ σ', RelS K F0 H0 F H σ' ρ' → σ'.length = σ.length → (∀ j, j ∉ is → σ'[j]? = σ[j]?) → Q σ' H) → g v σ H Q
def TgsD (K : PySem.W.Frag) (g : TGs) (is : List Nat) (ds : List D) (ρ ρ' : List Sl) : Prop := (∀ (j : Nat) (y : Sl), ρ'[j]? = some y → y.own = true → j ∉ is ∧ ρ[j]? = some y) ∧ ∀ (F0 H0 F H : Hp) (σ : St) (vs : List V), RelS K F0 H0 F H σ ρ → Reps K F vs ds → ∀ Q : St → Hp → Prop,
  (∀ σ', RelS K F0 H0 F H σ' ρ' → σ'.length = σ.length → (∀ j, j ∉ is → σ'[j]? = σ[j]?) → Q σ' H) → g vs σ H Q
theorem tg_name : TgD K (gName i) [i] d ρ (ρ.set i (.d d)) := ⟨fun j y h o => by
    rcases get_set h with ⟨e, rfl⟩ | ⟨e, h⟩
    · cases o
    · exact ⟨by simpa using fun z => e z.symm, h⟩, fun F0 H0 F H σ v R r Q q => q _ (R.set i r) (List.length_set ..) fun j hj => by
    rw [List.getElem?_set_ne (by simpa using (fun z => hj (by simp [z])))]⟩
theorem tgs_nil : TgsD K gNil [] [] ρ ρ := ⟨fun j y h o => ⟨by simp, h⟩, fun F0 H0 F H σ vs R r Q q => by
  cases r
  exact ⟨rfl, q σ R rfl fun _ _ => rfl⟩⟩
theorem tgs_cons {g : TG} {gs : TGs} {is js : List Nat} {ρ1 : List Sl} (h1 : TgD K g is d ρ ρ1) (h2 : TgsD K gs js ds ρ1 ρ') : TgsD K (gCons g gs) (is ++ js) (d :: ds) ρ ρ' := ⟨fun j y h o => by
    obtain ⟨n2, e2⟩ := h2.1 j y h o
    obtain ⟨n1, e1⟩ := h1.1 j y e2 o
    exact ⟨by rw [List.mem_append]; rintro (z | z); exact n1 z; exact n2 z, e1⟩, fun F0 H0 F H σ vs R r Q q => by
  cases r with
  | cons hv rv =>
    refine ⟨_, _, rfl, h1.2 F0 H0 F H σ _ R hv _ fun σ1 R1 l1 k1 => h2.2 F0 H0 F H σ1 _ R1 rv _ fun σ2 R2 l2 k2 => q σ2 R2 (l2.trans l1) fun j hj => ?_⟩
    rw [List.mem_append] at hj
    exact (k2 j fun z => hj (.inr z)).trans (k1 j fun z => hj (.inl z))⟩
theorem tg_tup {gs : TGs} {is : List Nat} {n : Nat} (h : TgsD K gs is ds ρ ρ') (hn : ds.length = n) : TgD K (gTup K n gs) is (.tup ds) ρ ρ' := ⟨h.1, fun F0 H0 F H σ v R r Q q => by
  cases r with
  | tup h1 rs => exact ⟨_, _, rfl, SqT.of (R.ex _ _ h1), by rw [rs.length]; exact hn, h.2 F0 H0 F H σ _ R rs Q q⟩⟩
theorem sv_asgT {g : TG} {is : List Nat} (h : EvD K te ρ d) (hg : TgD K g is d ρ ρ') : SvD K W (tAsg te g) ρ (.nx ρ') := fun E F0 H0 F H σ R p =>
  h F0 H0 F H σ R _ fun v F1 H1 g1 r1 => hg.2 F0 H0 F1 H1 σ v (R.grow g1) r1 _ fun σ' R' _ _ => p σ' F1 H1 g1.f R'
/-! ### loops -/
/-- the turns of a for, one item after the other -/
inductive Run (step : D → List Sl → Out → Prop) : List D → List Sl → Out → Prop
  | nil {ρ : List Sl} : Run step [] ρ (.nx ρ)
  | go {d : D} {ds : List D} {ρ ρ' : List Sl} {o : Out} (h : step d ρ (.nx ρ')) (r : Run step ds ρ' o) : Run step (d :: ds) ρ o
  | ct {d : D} {ds : List D} {ρ ρ' : List Sl} {o : Out} (h : step d ρ (.ct ρ')) (r : Run step ds ρ' o) : Run step (d :: ds) ρ o
  | bk {d : D} {ds : List D} {ρ ρ' : List Sl} (h : step d ρ (.bk ρ')) : Run step (d :: ds) ρ (.nx ρ')
  | rt {d x : D} {ds : List D} {ρ : List Sl} (h : step d ρ (.rt x)) : Run step (d :: ds) ρ (.rt x)
  | er {d : D} {ds : List D} {ρ ρ' : List Sl} {C : Addr} {fs : List (Str × D)} (h : step d ρ (.er C fs ρ')) : Run step (d :: ds) ρ (.er C fs ρ')
/-- one turn: the target, the body -/
def Turn1 (K : PySem.W.Frag) (W : WX) (g : TG) (tb : TS) : D → List Sl → Out → Prop := fun d ρ o => ∃ is ρ1, TgD K g is d ρ ρ1 ∧ SvD K W tb ρ1 o
theorem t1_name {tb : TS} (h : SvD K W tb (ρ.set i (.d d)) o) : Turn1 K W (gName i) tb d ρ o := ⟨_, _, tg_name, h⟩
end
end DL
set_option Elab.async false
set_option linter.all false
set_option maxRecDepth 100000
set_option maxHeartbeats 1000000
/-! What readings come to, over plain data: loops, comprehensions. -/
namespace DL
open PySem L2
/-- an iterator that yields the data ds, while A holds of the frozen part -/
structure Src (K : PySem.W.Frag) (J : It) (ds : List D) (A : Hp → Prop) : Prop where
  keep : ∀ F F', A F → Ex F F' → A F'
  go : ∀ i F H, i < ds.length → A F → Ex F H → J.go i H
  stop : ∀ F H, A F → Ex F H → J.stop ds.length H
  yld : ∀ i F H x H' d, ds[i]? = some d → A F → Ex F H → J.yld i H x H' → ∃ F', Gr F H F' H' ∧ Rep K F' x d
def WiD (K : PySem.W.Frag) (wi : TI) (ρ : List Sl) (ds : List D) : Prop := ∀ (F0 H0 F H : Hp) (σ : St), RelS K F0 H0 F H σ ρ → ∀ R : It → Hp → Prop, (∀ J A F' H', Gr F H F' H' → Src K J ds A → A F' → R J H') → wi σ H R
section
variable {K : PySem.W.Frag} {W : WX} {ρ ρ' : List Sl} {te ta tb : TE} {d x y z : D} {xs ys ds zs : List D} {tt tu : TT} {t u : TS} {o : Out} {i : Nat}
theorem src_list {a : Addr} {vs : List V} : Src K (Itl K a) ds (fun F => F a = some (.lst vs) ∧ Reps K F vs ds) where
  keep := fun F F' h e => ⟨e _ _ h.1, h.2.mono e⟩
  go := fun i F H hi h e => walk_list.goes i H (by rw [h.2.length]; exact hi) (SqL.of (e _ _ h.1))
  stop := fun F H h e => by rw [← h.2.length]; exact walk_list.stops H (SqL.of (e _ _ h.1))
  yld := fun i F H x H' d hd h e y => by
    have hi : i < vs.length := by rw [h.2.length]; exact (List.getElem?_eq_some_iff.mp hd).1
    obtain ⟨rfl, hx⟩ := walk_list.yields i H x H' hi (SqL.of (e _ _ h.1)) y
    obtain ⟨d', h1, h2⟩ := h.2.get hx
    rw [hd] at h1; cases h1
    exact ⟨F, .refl e, h2⟩
theorem src_scr {a : Addr} {ns : List Int} : Src K (Itl K a) (ns.map D.int) (fun F => SqL K F a (ns.map V.int)) where
  keep := fun F F' h e => e.sl h
  go := fun i F H hi h e => walk_list.goes i H (by simpa using hi) (e.sl h)
  stop := fun F H h e => by
    have := walk_list.stops H (e.sl h)
    simpa using this
  yld := fun i F H x H' d hd h e y => by
    have hi : i < (ns.map V.int).length := by simpa using (List.getElem?_eq_some_iff.mp hd).1
    obtain ⟨rfl, hx⟩ := walk_list.yields i H x H' hi (e.sl h) y
    rw [List.getElem?_map] at hx hd
    cases e1 : ns[i]? with
    | none => rw [e1] at hx; cases hx
    | some n =>
      rw [e1] at hx hd
      cases hx; cases hd
      exact ⟨F, .refl e, .int n⟩
theorem src_tup {a : Addr} {vs : List V} : Src K (Itt K a) ds (fun F => F a = some (.tup vs) ∧ Reps K F vs ds) where
  keep := fun F F' h e => ⟨e _ _ h.1, h.2.mono e⟩
  go := fun i F H hi h e => walk_tup.goes i H (by rw [h.2.length]; exact hi) (SqT.of (e _ _ h.1))
  stop := fun F H h e => by rw [← h.2.length]; exact walk_tup.stops H (SqT.of (e _ _ h.1))
  yld := fun i F H x H' d hd h e y => by
    have hi : i < vs.length := by rw [h.2.length]; exact (List.getElem?_eq_some_iff.mp hd).1
    obtain ⟨rfl, hx⟩ := walk_tup.yields i H x H' hi (SqT.of (e _ _ h.1)) y
    obtain ⟨d', h1, h2⟩ := h.2.get hx
    rw [hd] at h1; cases h1
    exact ⟨F, .refl e, h2⟩
/-- lo, lo + 1, .. -/
def rngD (lo : Int) (n : Nat) : List D := (List.range n).map fun (i : Nat) => D.int (lo + i)
theorem rngD_length (lo : Int) (n : Nat) : (rngD lo n).length = n := by simp [rngD]
theorem rngD_get {lo : Int} {n i : Nat} {d : D} (h : (rngD lo n)[i]? = some d) : d = .int (lo + i) := by
  unfold rngD at h
  rw [List.getElem?_map] at h
  cases e : (List.range n)[i]? with
  | none => rw [e] at h; cases h
  | some j =>
    rw [e] at h
    have := List.getElem?_eq_some_iff.mp e
    obtain ⟨h1, h2⟩ := this
    rw [List.getElem_range] at h2
    subst h2
    cases h; rfl
theorem src_range {lo : Int} {n : Nat} : Src K (Itr lo n) (rngD lo n) (fun _ => True) where
  keep := fun _ _ _ _ => trivial
  go := fun i F H hi _ _ => walk_range.goes i H (by rw [rngD_length] at hi; exact hi) trivial
  stop := fun F H _ _ => by rw [rngD_length]; exact walk_range.stops H trivial
  yld := fun i F H x H' d hd _ e y => by
    have hi : i < n := by have := (List.getElem?_eq_some_iff.mp hd).1; rw [rngD_length] at this; exact this
    obtain ⟨rfl, hx⟩ := walk_range.yields i H x H' hi trivial y
    subst hx
    rw [rngD_get hd]
    exact ⟨F, .refl e, .int _⟩
theorem src_rangeC {lo c : Int} {n : Nat} : Src K (Itc lo c n) ((List.range n).map fun (i : Nat) => D.int (lo + (i : Nat) * c)) (fun _ => True) where
  keep := fun _ _ _ _ => trivial
  go := fun i F H hi _ _ => walk_rangeC.goes i H (by simpa using hi) trivial
  stop := fun F H _ _ => by
    have := walk_rangeC (lo := lo) (c := c) (n := n).stops H trivial
    simpa using this
  yld := fun i F H x H' d hd _ e y => by
    have hi : i < n := by have := (List.getElem?_eq_some_iff.mp hd).1; simpa using this
    obtain ⟨rfl, hx⟩ := walk_rangeC.yields i H x H' hi trivial y
    subst hx
    rw [List.getElem?_map] at hd
    have e1 : (List.range n)[i]? = some i := by rw [List.getElem?_range hi]
    rw [e1] at hd
    cases hd
    exact ⟨F, .refl e, .int _⟩
theorem src_keys {a : Addr} {ob : Obj} {ws : List (Key × V)} : Src K (Itk a ob ws) (ws.map fun kv => kD kv.1) (fun F => F a = some (.frz ob (.dK ws))) where
  keep := fun F F' h e => e _ _ h
  go := fun i F H hi h e => walk_keys.goes i H (by simpa using hi) (e _ _ h)
  stop := fun F H h e => by
    have := walk_keys.stops H (e _ _ h)
    simpa using this
  yld := fun i F H x H' d hd h e y => by
    have hi : i < ws.length := by have := (List.getElem?_eq_some_iff.mp hd).1; simpa using this
    obtain ⟨rfl, k, v, h1, rfl⟩ := walk_keys.yields i H x H' hi (e _ _ h) y
    rw [List.getElem?_map, h1] at hd
    cases hd
    exact ⟨F, .refl e, rep_key k⟩
theorem src_keysT {a : Addr} {ob : Obj} {ws : List (List Key × V)} : Src K (Itkt a ob ws) (ws.map fun kv => D.tup (kv.1.map kD)) (fun F => F a = some (.frz ob (.dT ws))) where
  keep := fun F F' h e => e _ _ h
  go := fun i F H hi h e => walk_keysT.goes i H (by simpa using hi) (e _ _ h)
  stop := fun F H h e => by
    have := walk_keysT.stops H (e _ _ h)
    simpa using this
  yld := fun i F H x H' d hd h e y => by
    have hi : i < ws.length := by have := (List.getElem?_eq_some_iff.mp hd).1; simpa using this
    obtain ⟨rfl, k, v, q, h1, rfl, h2⟩ := walk_keysT.yields i H x H' hi (e _ _ h) y
    rw [List.getElem?_map, h1] at hd
    cases hd
    obtain ⟨F', g, hq⟩ := Gr.tup e h2
    exact ⟨F', g, .tup hq (reps_keys k)⟩
theorem wi_list (h : EvD K te ρ (.lst ds)) : WiD K (iList K te) ρ ds := fun F0 H0 F H σ R Q q => h F0 H0 F H σ R _ fun v F1 H1 g1 r1 => by
  cases r1 with
  | lst h1 rs => exact ⟨_, rfl, ⟨_, SqL.of (g1.s _ _ h1)⟩, q _ _ F1 H1 g1 src_list ⟨h1, rs⟩⟩
theorem wi_scr {ns : List Int} (h : EvD K te ρ (.scr ns)) : WiD K (iList K te) ρ (ns.map D.int) := fun F0 H0 F H σ R Q q => h F0 H0 F H σ R _ fun v F1 H1 g1 r1 => by
  cases r1 with
  | scr h1 => exact ⟨_, rfl, ⟨_, g1.s.sl h1⟩, q _ _ F1 H1 g1 src_scr h1⟩
theorem wi_tup (h : EvD K te ρ (.tup ds)) : WiD K (iTup K te) ρ ds := fun F0 H0 F H σ R Q q => h F0 H0 F H σ R _ fun v F1 H1 g1 r1 => by
  cases r1 with
  | tup h1 rs => exact ⟨_, rfl, ⟨_, SqT.of (g1.s _ _ h1)⟩, q _ _ F1 H1 g1 src_tup ⟨h1, rs⟩⟩
theorem wi_rng1 {ta : TA} {j : Int} (h : AvD K ta ρ [.int j]) (h1 : -(2 ^ 62) ≤ j) (h2 : j < 2 ^ 62) : WiD K (iRng1 ta) ρ (rngD 0 j.toNat) := fun F0 H0 F H σ R Q q => h F0 H0 F H σ R _ fun vs F1 H1 g1 r1 => by
  cases r1 with
  | cons a r =>
    cases a; cases r
    exact ⟨j, rfl, h1, h2, q _ _ F1 H1 g1 src_range trivial⟩
theorem wi_rng2 {ta : TA} {i j : Int} (h : AvD K ta ρ [.int i, .int j]) (h1 : -(2 ^ 62) ≤ i ∧ i < 2 ^ 62) (h2 : -(2 ^ 62) ≤ j ∧ j < 2 ^ 62) : WiD K (iRng2 ta) ρ (rngD i (j - i).toNat) := fun F0 H0 F H σ R Q q => h F0 H0 F H σ R _ fun vs F1 H1 g1 r1 => by
  cases r1 with
  | cons a r =>
    cases a
    cases r with
    | cons b r =>
      cases b; cases r
      exact ⟨i, j, rfl, ⟨h1.1, h1.2, h2.1, h2.2⟩, q _ _ F1 H1 g1 src_range trivial⟩
theorem run_get {step : D → List Sl → Out → Prop} {ds : List D} {ρ : List Sl} {o : Out} (r : Run step ds ρ o) : (ds = [] ∧ o = .nx ρ) ∨ ∃ d r', ds = d :: r' ∧ ((∃ ρ', step d ρ (.nx ρ') ∧ Run step r' ρ' o) ∨ (∃ ρ', step d ρ (.ct ρ') ∧ Run step r' ρ' o) ∨ (∃ ρ', step d ρ (.bk ρ') ∧ o = .nx ρ') ∨ (∃ x, step d ρ (.rt x) ∧ o = .rt x) ∨ ∃ C fs ρ', step d ρ (.er C fs ρ') ∧ o = .er C fs ρ') := by
  cases r with
  | nil => exact .inl ⟨rfl, rfl⟩
  | go h r => exact .inr ⟨_, _, rfl, .inl ⟨_, h, r⟩⟩
  | ct h r => exact .inr ⟨_, _, rfl, .inr (.inl ⟨_, h, r⟩)⟩
  | bk h => exact .inr ⟨_, _, rfl, .inr (.inr (.inl ⟨_, h, rfl⟩))⟩
  | rt h => exact .inr ⟨_, _, rfl, .inr (.inr (.inr (.inl ⟨_, h, rfl⟩)))⟩
  | er h => exact .inr ⟨_, _, rfl, .inr (.inr (.inr (.inr ⟨_, _, _, h, rfl⟩)))⟩
theorem drop_get {α : Type} {l : List α} {i : Nat} {a : α} {r : List α} (h : l.drop i = a :: r) : l[i]? = some a ∧ l.drop (i + 1) = r ∧ i < l.length := by
  have h1 : (l.drop i)[0]? = some a := by rw [h]; rfl
  rw [List.getElem?_drop] at h1
  have h2 : l[i]? = some a := by simpa using h1
  refine ⟨h2, ?_, (List.getElem?_eq_some_iff.mp h2).1⟩
  rw [← List.drop_drop, h]; rfl
theorem for_at {wi : TI} {g : TG} {tb : TS} {E : Ends} {F0 H0 F H : Hp} {σ : St} (R : RelS K F0 H0 F H σ ρ) (hw : ∀ R' : It → Hp → Prop, (∀ J A F' H', Gr F H F' H' → Src K J ds A → A F' → R' J H') → wi σ H R') (hr : Run (Turn1 K W g tb) ds ρ o)
    (p : Post K F0 H0 F E W o) : tFor wi g tb E σ H :=
  hw _ fun J A F1 H1 g1 src a1 => by
    refine ⟨fun i m σ' H' => ∃ ρ' F', m = ds.length - i ∧ i ≤ ds.length ∧ RelS K F0 H0 F' H' σ' ρ' ∧ Run (Turn1 K W g tb) (ds.drop i) ρ' o ∧ Ex F1 F', ⟨ds.length, ρ, F1, rfl, Nat.zero_le _, R.grow g1, hr, Ex.refl F1⟩, ?_⟩
    rintro i m σ' H' ⟨ρ', F', rfl, hi, R', hr', ex⟩
    have a' := src.keep _ _ a1 ex
    have pF : Post K F0 H0 F' E W o := p.up (g1.f.trans ex)
    rcases run_get hr' with ⟨e, rfl⟩ | ⟨d, r, e, h⟩
    · have hi' : i = ds.length := by
        have := List.drop_eq_nil_iff.mp e
        omega
      subst hi'
      exact .inl ⟨src.stop _ _ a' R'.ex, pF σ' F' H' (Ex.refl F') R'⟩
    · obtain ⟨hd, hn, hlt⟩ := drop_get e
      refine .inr ⟨src.go i F' H' hlt a' R'.ex, ?_⟩
      rcases h with ⟨ρ2, h, r2⟩ | ⟨ρ2, h, r2⟩ | ⟨ρ2, h, rfl⟩ | ⟨x, h, rfl⟩ | ⟨C, fs, ρe, h, rfl⟩
      · refine ⟨fun σ2 H2 => ∃ F2, RelS K F0 H0 F2 H2 σ2 ρ2 ∧ Ex F1 F2, fun σ2 H2 ⟨F2, R2, e2⟩ => ⟨ds.length - (i + 1), by omega, ρ2, F2, rfl, hlt, R2, by rw [hn]; exact r2, e2⟩, fun x H2 y => ?_⟩
        obtain ⟨F2, g2, rx⟩ := src.yld i F' H' x H2 d hd a' R'.ex y
        obtain ⟨is, ρ3, tg, sb⟩ := h
        exact tg.2 F0 H0 F2 H2 σ' x (R'.grow g2) rx _ fun σ3 R3 _ _ => sb _ F0 H0 F2 H2 σ3 R3 fun σ4 F4 H4 e4 R4 => ⟨F4, R4, (ex.trans g2.f).trans e4⟩
      · refine ⟨fun σ2 H2 => ∃ F2, RelS K F0 H0 F2 H2 σ2 ρ2 ∧ Ex F1 F2, fun σ2 H2 ⟨F2, R2, e2⟩ => ⟨ds.length - (i + 1), by omega, ρ2, F2, rfl, hlt, R2, by rw [hn]; exact r2, e2⟩, fun x H2 y => ?_⟩
        obtain ⟨F2, g2, rx⟩ := src.yld i F' H' x H2 d hd a' R'.ex y
        obtain ⟨is, ρ3, tg, sb⟩ := h
        exact tg.2 F0 H0 F2 H2 σ' x (R'.grow g2) rx _ fun σ3 R3 _ _ => sb _ F0 H0 F2 H2 σ3 R3 fun σ4 F4 H4 e4 R4 => ⟨F4, R4, (ex.trans g2.f).trans e4⟩
      · refine ⟨fun _ _ => False, fun _ _ z => z.elim, fun x H2 y => ?_⟩
        obtain ⟨F2, g2, rx⟩ := src.yld i F' H' x H2 d hd a' R'.ex y
        obtain ⟨is, ρ3, tg, sb⟩ := h
        exact tg.2 F0 H0 F2 H2 σ' x (R'.grow g2) rx _ fun σ3 R3 _ _ => sb _ F0 H0 F2 H2 σ3 R3 fun σ4 F4 H4 e4 R4 => pF σ4 F4 H4 (g2.f.trans e4) R4
      · refine ⟨fun _ _ => False, fun _ _ z => z.elim, fun x H2 y => ?_⟩
        obtain ⟨F2, g2, rx⟩ := src.yld i F' H' x H2 d hd a' R'.ex y
        obtain ⟨is, ρ3, tg, sb⟩ := h
        exact tg.2 F0 H0 F2 H2 σ' x (R'.grow g2) rx _ fun σ3 R3 _ _ => sb _ F0 H0 F2 H2 σ3 R3 fun v F4 H4 e4 g4 r4 => pF v F4 H4 (g2.f.trans e4) g4 r4
      · refine ⟨fun _ _ => False, fun _ _ z => z.elim, fun x H2 y => ?_⟩
        obtain ⟨F2, g2, rx⟩ := src.yld i F' H' x H2 d hd a' R'.ex y
        obtain ⟨is, ρ3, tg, sb⟩ := h
        exact tg.2 F0 H0 F2 H2 σ' x (R'.grow g2) rx _ fun σ3 R3 _ _ => sb _ F0 H0 F2 H2 σ3 R3 fun od σ4 F4 H4 e4 g4 r4 => pF od σ4 F4 H4 (g2.f.trans e4) g4 r4
theorem sv_for {wi : TI} {g : TG} {tb : TS} (hw : WiD K wi ρ ds) (hr : Run (Turn1 K W g tb) ds ρ o) : SvD K W (tFor wi g tb) ρ o := fun E F0 H0 F H σ R p => for_at R (hw F0 H0 F H σ R) hr p
/-! ### comprehensions -/
def wipeS (ρ : List Sl) : List Nat → List Sl
  | [] => ρ
  | v :: vs => (wipeS ρ vs).set v .no
theorem RelS.wipe {F0 H0 F H : Hp} {σ : St} (R : RelS K F0 H0 F H σ ρ) : ∀ vs : List Nat, RelS K F0 H0 F H (wipe σ vs) (wipeS ρ vs)
  | [] => R
  | v :: vs => (R.wipe vs).forget v none
theorem wipe_get (σ : St) (j : Nat) : ∀ vs : List Nat, (wipe σ vs)[j]? = if j ∈ vs then (σ[j]?).map (fun _ => none) else σ[j]?
  | [] => by simp [L2.wipe]
  | v :: vs => by
    unfold L2.wipe
    by_cases e : v = j
    · subst e
      by_cases h : v < (L2.wipe σ vs).length
      · have h' := h
        rw [wipe_length] at h'
        rw [List.getElem?_set_self h, if_pos List.mem_cons_self, List.getElem?_eq_getElem h']; rfl
      · have h' := h
        rw [wipe_length] at h'
        rw [List.getElem?_eq_none (by rw [List.length_set]; omega), if_pos List.mem_cons_self, List.getElem?_eq_none (by omega)]; rfl
    · rw [List.getElem?_set_ne e, wipe_get σ j vs]
      by_cases m : j ∈ vs
      · rw [if_pos m, if_pos (List.mem_cons_of_mem _ m)]
      · rw [if_neg m, if_neg (by rintro (_ | ⟨_, z⟩); exact e rfl; exact m (by assumption))]
theorem wipe_same {σ σ' : St} {vs is : List Nat} (hl : σ'.length = σ.length) (h : ∀ j, j ∉ is → σ'[j]? = σ[j]?) (hs : ∀ j ∈ is, j ∈ vs) : L2.wipe σ' vs = L2.wipe σ vs := by
  apply List.ext_getElem?
  intro j
  rw [wipe_get, wipe_get]
  by_cases m : j ∈ vs
  · rw [if_pos m, if_pos m]
    by_cases hj : j < σ.length
    · rw [List.getElem?_eq_getElem hj, List.getElem?_eq_getElem (by omega)]; rfl
    · rw [List.getElem?_eq_none (by omega), List.getElem?_eq_none (by omega)]
  · rw [if_neg m, if_neg m]
    exact h j fun z => m (hs j z)
theorem wipe_wipe {σ : St} {vs : List Nat} : L2.wipe (L2.wipe σ vs) vs = L2.wipe σ vs := by
  apply List.ext_getElem?
  intro j
  rw [wipe_get, wipe_get]
  by_cases m : j ∈ vs
  · rw [if_pos m, if_pos m]
    cases σ[j]? <;> rfl
  · rw [if_neg m, if_neg m]
/-- an object that is nobody's (a comprehension's list) changes -/
theorem Gr.side {F H F' H' : Hp} (g : Gr F H F' H') {p : Addr} {o : HO} (h : H p = none) (hf : F' p = none) : Gr F H F' (upd H' p o) :=
  ⟨g.f, g.h.mut h, g.s.mut hf, g.n⟩
theorem RelS.side {F0 H0 F H : Hp} {σ : St} (R : RelS K F0 H0 F H σ ρ) {p : Addr} {o : HO} (h0 : H0 p = none) (hf : F p = none) (hp : ∀ (j : Nat) (y : Sl), ρ[j]? = some y → y.own = true → σ[j]? ≠ some (some (.ref p))) : RelS K F0 H0 F (upd H p o) σ ρ := by
  refine ⟨R.gr.side h0 hf, R.len, fun j z u h1 h2 => ?_, R.ne⟩
  have q := R.sl j z u h1 h2
  by_cases oz : z.own = true
  · obtain ⟨b, rfl, hb⟩ := (SlR.own oz).mp q
    refine (SlR.own oz).mpr ⟨b, rfl, hb.other fun z' => ?_⟩
    subst z'
    exact hp j z h1 oz h2
  · cases z with
    | no => trivial
    | d z => exact q
    | ol _ => exact absurd rfl oz
    | ok _ => exact absurd rfl oz
    | ot _ => exact absurd rfl oz
/-- one turn of a comprehension: its target, its test, its element (or none) -/
def Cmp1 (K : PySem.W.Frag) (g : TG) (tt : TT) (te : TE) (vs : List Nat) (ρ : List Sl) (d : D) (r : Option D) : Prop :=
  ∃ is ρ1 b, TgD K g is d ρ ρ1 ∧ (∀ j ∈ is, j ∈ vs) ∧ TvD K tt ρ1 b ∧ (b = true → ∃ y, r = some y ∧ EvD K te ρ1 y) ∧ (b = false → r = none)
theorem filterMap_take {α β : Type} {f : α → Option β} {l : List α} {i : Nat} {a : α} (h : l[i]? = some a) : (l.take (i + 1)).filterMap f = (l.take i).filterMap f ++ (f a).toList := by
  rw [List.take_add_one, List.filterMap_append, h]
  cases e : f a <;> simp [e]
theorem lc_at {wi : TI} {g : TG} {tt : TT} {te : TE} {vs : List Nat} {f : D → Option D} {F0 H0 F H : Hp} {σ : St} (R : RelS K F0 H0 F H σ ρ) (hw : ∀ R' : It → Hp → Prop, (∀ J A F' H', Gr F H F' H' → Src K J ds A → A F' → R' J H') → wi σ H R')
    (hs : ∀ d ∈ ds, Cmp1 K g tt te vs (wipeS ρ vs) d (f d)) (hl : ds.length ≤ 16777215) {Q : VK} (q : ∀ p ws F' H', Gr F H F' H' → H p = none → F' p = none → H' p = some (.lst ws) → Reps K F' ws (ds.filterMap f) → Q (.ref p) H') : tLc wi g tt te vs σ H Q :=
  hw _ fun J A F1 H1 g1 src a1 => fun Dl hD => by
    have hD0 : H Dl = none := g1.h.back hD
    have hDF1 : F1 Dl = none := g1.s.back hD
    have hD00 : H0 Dl = none := R.gr.h.back hD0
    have Rw : RelS K F0 H0 F1 H1 (L2.wipe σ vs) (wipeS ρ vs) := (R.grow g1).wipe vs
    have fr := Rw.fresh hD
    refine ⟨fun i m H' => ∃ F' acc, m = ds.length - i ∧ i ≤ ds.length ∧ Gr F H F' H' ∧ RelS K F0 H0 F' H' (L2.wipe σ vs) (wipeS ρ vs) ∧ Ex F1 F' ∧ F' Dl = none ∧ H' Dl = some (.lst acc) ∧ Reps K F' acc ((ds.take i).filterMap f),
      ⟨ds.length, F1, [], rfl, Nat.zero_le _, g1.side hD0 hDF1, Rw.side hD00 hDF1 fr, Ex.refl F1, hDF1, upd_same, .nil⟩, ?_⟩
    rintro i m H' ⟨F', acc, rfl, hi, g', R', ex, hDF, hDH, ra⟩
    have a' := src.keep _ _ a1 ex
    by_cases hlt : i < ds.length
    · refine .inr ⟨src.go i F' H' hlt a' R'.ex, fun H2 => ∃ F2 acc, Gr F H F2 H2 ∧ RelS K F0 H0 F2 H2 (L2.wipe σ vs) (wipeS ρ vs) ∧ Ex F1 F2 ∧ F2 Dl = none ∧ H2 Dl = some (.lst acc) ∧ Reps K F2 acc ((ds.take (i + 1)).filterMap f),
        fun H2 ⟨F2, acc, x1, x2, x3, x4, x5, x6⟩ => ⟨ds.length - (i + 1), by omega, F2, acc, rfl, hlt, x1, x2, x3, x4, x5, x6⟩, fun x H2 y => ?_⟩
      obtain ⟨d, hd⟩ : ∃ d, ds[i]? = some d := ⟨ds[i], List.getElem?_eq_getElem hlt⟩
      obtain ⟨F2, g2, rx⟩ := src.yld i F' H' x H2 d hd a' R'.ex y
      obtain ⟨is, ρ1, b, tg, sub, tv, ht, hf⟩ := hs d (List.mem_of_getElem? hd)
      refine tg.2 F0 H0 F2 H2 _ x (R'.grow g2) rx _ fun σ3 R3 l3 k3 => ⟨?_, ?_⟩
      · rw [wipe_same l3 k3 sub, wipe_wipe]
      · refine tv F0 H0 F2 H2 σ3 R3 _ fun F3 H3 g3 => ?_
        have gA := (g'.trans g2).trans g3
        have RA := (R'.grow g2).grow g3
        have nD : F3 Dl = none := g3.n _ _ (g2.h _ _ hDH) rfl (g2.n _ _ hDH rfl hDF)
        cases b with
        | false =>
          show ∃ F2 acc, _
          refine ⟨F3, acc, gA, RA, (ex.trans g2.f).trans g3.f, nD, g3.h _ _ (g2.h _ _ hDH), ?_⟩
          rw [filterMap_take hd, hf rfl]
          simpa using (ra.mono g2.f).mono g3.f
        | true =>
          obtain ⟨yv, ey, hy⟩ := ht rfl
          show te σ3 H3 _
          refine hy F0 H0 F3 H3 σ3 (R3.grow g3) _ fun v F4 H4 g4 r4 => ?_
          have nD4 : F4 Dl = none := g4.n _ _ (g3.h _ _ (g2.h _ _ hDH)) rfl nD
          have hD4 : H4 Dl = some (.lst acc) := g4.h _ _ (g3.h _ _ (g2.h _ _ hDH))
          have rA := ((ra.mono g2.f).mono g3.f).mono g4.f
          refine ⟨acc, hD4, ?_, F4, acc ++ [v], (gA.trans g4).side hD0 nD4, (RA.grow g4).side hD00 nD4 fr, ((ex.trans g2.f).trans g3.f).trans g4.f, nD4, upd_same, ?_⟩
          · rw [rA.length, sizeLine_eq]
            have l1 := List.length_filterMap_le f (ds.take i)
            have l2 := List.length_take_le i ds
            omega
          · rw [filterMap_take hd, ey]
            exact rA.append (.cons r4 .nil)
    · have e : i = ds.length := by omega
      subst e
      refine .inl ⟨src.stop _ _ a' R'.ex, q Dl acc F' H' g' hD0 hDF hDH ?_⟩
      rw [List.take_length] at ra
      exact ra
theorem ev_lc {wi : TI} {g : TG} {tt : TT} {te : TE} {vs : List Nat} {f : D → Option D} (hw : WiD K wi ρ ds) (hs : ∀ d ∈ ds, Cmp1 K g tt te vs (wipeS ρ vs) d (f d)) (hl : ds.length ≤ 16777215) :
    EvL K (tLc wi g tt te vs) ρ (ds.filterMap f) := fun F0 H0 F H σ R Q q => lc_at R (hw F0 H0 F H σ R) hs hl q
end
end DL
set_option Elab.async false
set_option linter.all false
set_option maxRecDepth 100000
set_option maxHeartbeats 1000000
/-! Defs over plain data: their promises, their calls. -/
namespace DL
open PySem PySem.Spec PyProof.Rows L2
/-- what a def comes to -/
inductive Res where
  | ok (d : D) | er (C : Addr) (fs : List (Str × D))
def Res.out : Res → Out
  | .ok d => .rt d
  | .er C fs => .er C fs []
/-- the promise: on the data ds it comes to r, where f ds r -/
def SpF (K : PySem.W.Frag) (n : Nat) (f : List D → Res → Prop) : Sp := fun vs H Q E => ∃ F ds r, Ex F H ∧ Reps K F vs ds ∧ vs.length = n ∧ f ds r ∧
  match r with
  | .ok d => ∀ v F' H', Gr F H F' H' → Rep K F' v d → Q v H'
  | .er C fs => ∀ od F' H', Gr F H F' H' → XR K F' H' od fs → E (.ref C) od H'
section
variable {K : PySem.W.Frag} {W : WX} {ρ ρ' : List Sl} {te ta tb : TE} {d x y z : D} {xs ys ds zs : List D} {t : TA} {i n : Nat} {f : List D → Res → Prop}
theorem ev_call {Es : L2.St → XK} (h : AvD K t ρ ds) (hf : f ds (.ok d)) (hn : ds.length = n := by rfl) : EvD K (tCallS (SpF K n f) Es t) ρ d := fun F0 H0 F H σ R Q q =>
  h F0 H0 F H σ R _ fun vs F1 H1 g1 r1 => ⟨F1, ds, .ok d, g1.s, r1, by rw [r1.length]; exact hn, hf, fun v F2 H2 g2 r2 => q v F2 H2 (g1.trans g2) r2⟩
/-- the slots at a def's entry -/
def entry (N : List Str) (ds : List D) : List Sl := ds.map Sl.d ++ List.replicate (N.length - ds.length) .no
theorem entry_rel {N : List Str} {F H : Hp} {vs : List V} (e : Ex F H) (r : Reps K F vs ds) : RelS K F H F H (L2.start N vs) (entry N ds) := by
  have hl := r.length
  have own : ∀ (j : Nat) (y : Sl), (entry N ds)[j]? = some y → y.own = false := fun j y h => by
    unfold entry at h
    by_cases hj : j < (ds.map Sl.d).length
    · rw [List.getElem?_append_left hj, List.getElem?_map] at h
      cases e : ds[j]? with
      | none => rw [e] at h; cases h
      | some d => rw [e] at h; cases h; rfl
    · rw [List.getElem?_append_right (by omega), List.getElem?_replicate] at h
      split at h
      · cases h; rfl
      · cases h
  refine ⟨.refl e, by unfold entry L2.start; simp [hl], fun j y o h1 h2 => ?_, fun j k y z p h1 _ o1 _ _ _ => ?_⟩
  · unfold entry at h1
    unfold L2.start at h2
    by_cases hj : j < ds.length
    · rw [List.getElem?_append_left (by simpa using hj), List.getElem?_map] at h1
      rw [List.getElem?_append_left (by simpa [hl] using hj), List.getElem?_map] at h2
      cases e1 : ds[j]? with
      | none => rw [e1] at h1; cases h1
      | some d =>
        rw [e1] at h1; cases h1
        obtain ⟨v, e2, rv⟩ := r.getD e1
        rw [e2] at h2; cases h2
        exact ⟨v, rfl, rv⟩
    · rw [List.getElem?_append_right (by simpa using hj), List.getElem?_replicate] at h1
      split at h1
      · cases h1; trivial
      · cases h1
  · rw [own j y h1] at o1; cases o1
/-- how a def's body ends: by its result, or behind its last row (None) -/
def FnEnd (K : PySem.W.Frag) (W : WX) (t : TS) (ρ : List Sl) (r : Res) : Prop := (match r with
  | .ok d => SvD K W t ρ (.rt d)
  | .er C fs => ∃ ρ', SvD K W t ρ (.er C fs ρ')) ∨ (r = .ok .non ∧ ∃ ρ', SvD K W t ρ (.nx ρ'))
end
section
variable {P : Program} {w : World} {K : PySem.W.Frag} {mg : Str → Option Value} {base : Heap}
abbrev cxD (P : Program) (w : World) (K : PySem.W.Frag) (mg : Str → Option Value) (base : Heap) (N : List Str) (qual : Str) (st : Stmt) (f : Addr) (cdv : Value) (A : Around) (outer : List Env) (s : Shared) (H : Hp) (E : XK) : Cx :=
  cxOf (L2N.CX P w) P w K mg base N qual (defScope st) f cdv A outer s H E
abbrev wD (E : XK) : WX := fun cls d _ H => E cls d H
/-- nothing is let out -/
theorem takesN {X : Cx} : L2N.Takes X (fun _ _ _ _ => False) := fun _ _ x => by
  obtain ⟨_, _, _, _, _, _, _, _, _, _, _, _, _, _, _, _, no⟩ := x
  exact no.elim
/-- THE RULE for a def -/
theorem fnD {x qual : Str} {st : Stmt} {f : Addr} {fd : FuncData} {N ps : List Str} {k : Nat} (F : Fun K x qual st f fd) (S : FnScope N ps (defScope st)) (fr : List D → Res → Prop)
    (hbody : ∀ (cdv : Value) (A : Around) (outer : List Env) (s : Shared) (H : Hp) (E : XK), Room k (A.deeper (envOfC qual (defScope st) s.heap.objs.size f cdv)) →
      ∃ t, PSs (cxD P w K mg base N qual st f cdv A outer s H E) (defBody st) t ∧ ∀ ds r, fr ds r → ds.length = ps.length → FnEnd K (wD E) t (entry N ds) r) : FnOk P w K mg base (L2N.CX P w) (k + 1) f fd ps (SpF K ps.length fr) := by
  obtain ⟨oc, od, kV, doc, pm, an, cdv, ct, osl, rfl, lk, hcd⟩ := F.ex
  refine fn_of lk hcd S (fun vs H Q E h => ?_) fun A outer s H vs Q E hr h => ?_
  · obtain ⟨_, _, _, _, _, h, _⟩ := h
    exact h
  · obtain ⟨t, ht, hs⟩ := hbody cdv A outer s H E hr
    obtain ⟨F1, ds, r, ex, rs, hl, hf, q⟩ := h
    refine ⟨t, ht, ?_⟩
    have R := entry_rel (N := N) ex rs
    rcases hs ds r hf (by rw [← rs.length]; exact hl) with h | ⟨rfl, ρ', h⟩
    · cases r with
      | ok d => exact h _ F1 H F1 H _ R fun v F' H' _ g rv => q v F' H' g rv
      | er C fs =>
        obtain ⟨ρ', h⟩ := h
        exact h _ F1 H F1 H _ R fun od σ F' H' _ g rv => q od F' H' g.gr rv
    · exact h _ F1 H F1 H _ R fun σ F' H' _ R' => q .non F' H' R'.gr .non
end
end DL
set_option Elab.async false
set_option linter.all false
set_option maxRecDepth 100000
set_option maxHeartbeats 1000000
/-! Rules of syntax that leave the kind of the operands open, and their readings over plain data. -/
namespace DL
open PySem PySem.Spec PyProof.Rows L2
section
variable {X : Cx} {K : PySem.W.Frag}
abbrev rS2 : R2 := fun x y H Q => ∃ i j, x = .str i ∧ y = .str j ∧ i.length + j.length ≤ sizeLine ∧ Q (.str (i ++ j)) H
def rAddA (K : PySem.W.Frag) : R2 := fun x y H Q => rI0 (fun i j => .int (i + j)) x y H Q ∨ (fun x y H Q => rS2 x y H Q ∨ (fun x y H Q => rCat x y H Q ∨ rCatA K x y H Q) x y H Q) x y H Q
theorem opA_add : OpR X (binaryOp .Add) (rAddA X.K) := OpR.or op_add (OpR.or op_add_str (OpR.or op_cat op_catA))
def rMulA : R2 := fun x y H Q => rI CMulX (fun i j => .int (i * j)) x y H Q ∨ rRep x y H Q
theorem opA_mul : OpR X (binaryOp .Mult) rMulA := OpR.or op_mulX op_rep
/-- // by any divisor below 2 ^ 9000 -/
def CDivX (_ j : Int) : Prop := j ≠ 0 ∧ j.natAbs.log2 < 9000
theorem op_fdivX : OpR X (binaryOp .FloorDiv) (rI CDivX fun i j => .int (i.fdiv j)) := opI fun _ _ _ _ _ _ _ hc q => floordiv_int hc.1 q (.inl (PyProof.noPylong_of_log2 hc.2))
def rDivA : R2 := fun x y H Q => rI CDiv (fun i j => .int (i / j)) x y H Q ∨ (fun x y H Q => rI CDivW (fun i j => .int (i / j)) x y H Q ∨ rI CDivX (fun i j => .int (i.fdiv j)) x y H Q) x y H Q
theorem opA_div : OpR X (binaryOp .FloorDiv) rDivA := OpR.or op_fdiv (OpR.or op_fdivW op_fdivX)
abbrev rLtS : R2 := fun x y H Q => ∃ i j, x = .str i ∧ y = .str j ∧ Q (.bl (decide (i.cps.toList < j.cps.toList))) H
/-- a call of a def of the module -/
def Cal (P : Program) (w : World) (K : PySem.W.Frag) (mg : Str → Option Value) (base : Heap) (k : Nat) (x : Str) (ps : List Str) (fr : List D → Res → Prop) : Prop :=
  ∃ f fd, mg x = some (.ref f) ∧ PySem.W.keepIn K (.ref f) = true ∧ Binds K fd ps [] ∧ FnOk P w K mg base (L2N.CX P w) k f fd ps (SpF K ps.length fr)
theorem pe_callD {x : Str} {p pos : Pos} {e : Expr} {es : List Expr} {t : TA} {W : WX} {k : Nat} {ps : List Str} {fr : List D → Res → Prop} (C : Cal X.prog X.w X.K X.mg X.base k x ps fr) (hr : Room k X.A) (hg : Gl X x) (tk : L2N.Takes X W) (ha : PA X (e :: es) t)
    (hdb : (x == ("__debug__" : Str)) = false := by decide) (he : starEach (e :: es) X.env = (false, eval e X.env) :: starEach es X.env := by rfl) (hpl : (backTo pos (starEach es X.env)).any (·.1) = false := by rfl) :
    PE X (.Call (.Name x p) (e :: es) [] pos) (tCallS (SpF X.K ps.length fr) (WE W) t) := by
  obtain ⟨f, fd, h1, h2, h3, h4⟩ := C
  exact pe_callS h4 hr hg h1 h2 h3 (fun σ => L2N.passAt tk σ) ha hdb he hpl
/-- where a def of the text stands -/
def FunAt (K : PySem.W.Frag) (mg : Str → Option Value) (x : Str) (st : Stmt) (ps : List Str) : Prop := ∃ f fd, mg x = some (.ref f) ∧ Fun K x x st f fd ∧ Binds K fd ps []
theorem cal_of {P : Program} {w : World} {mg : Str → Option Value} {base : Heap} {k : Nat} {x : Str} {st : Stmt} {N ps : List Str} (A : FunAt K mg x st ps) (S : FnScope N ps (defScope st)) (fr : List D → Res → Prop)
    (hbody : ∀ (f : Addr) (cdv : Value) (A : Around) (outer : List Env) (s : Shared) (H : Hp) (E : XK), Room k (A.deeper (envOfC x (defScope st) s.heap.objs.size f cdv)) →
      ∃ t, PSs (cxD P w K mg base N x st f cdv A outer s H E) (defBody st) t ∧ ∀ ds r, fr ds r → ds.length = ps.length → FnEnd K (wD E) t (entry N ds) r) : Cal P w K mg base (k + 1) x ps fr := by
  obtain ⟨f, fd, h1, h2, h3⟩ := A
  exact ⟨f, fd, h1, h2.kp, h3, fnD h2 S fr (hbody f)⟩
/-- iteration over a list, a tuple, a dict's keys -/
def iSeq (K : PySem.W.Frag) (te : TE) : TI := fun σ H R => iList K te σ H R ∨ iTup K te σ H R ∨ iKeys te σ H R
theorem pi_seq {tg l : Expr} {tl : TE} (hl : PE X l tl) : PI X tg l (iSeq X.K tl) := by
  refine ⟨fun pins s σ H R I h => ?_⟩
  rcases h with h | h | h
  · exact (pi_list hl).run pins s σ H R I h
  · exact (pi_tup hl).run pins s σ H R I h
  · exact (pi_keys hl).run pins s σ H R I h
theorem pt_truth2 {a : Expr} {ta : TE} (ha : PE X a ta) (he : ∀ whole, isTrue a X.env whole = (do let v ← whole; standAt a.pos; holding [v] (truthy v)) := by intro _; rfl) : PT X a (tTru X.K ta) := pt_truth ha he
/-- whatever sequence is called tuple, list -/
abbrev rTupC (K : PySem.W.Frag) : List V → Hp → VK → Prop := fun xs H Q => ∃ p ys, xs = [.ref p] ∧ ((SqL K H p ys ∧ ∀ l, H l = none → Q (.ref l) (upd H l (.tup ys))) ∨ (SqT K H p ys ∧ Q (.ref p) H))
abbrev rLstC (K : PySem.W.Frag) : List V → Hp → VK → Prop := fun xs H Q => ∃ p ys, xs = [.ref p] ∧ (SqL K H p ys ∨ SqT K H p ys) ∧ ∀ l, H l = none → Q (.ref l) (upd H l (.lst ys))
theorem CallR.or {f : Value} {r r' : List V → Hp → VK → Prop} (h : CallR X f r) (h' : CallR X f r') : CallR X f (fun xs H Q => r xs H Q ∨ r' xs H Q) := by
  intro pins s σ H xs us Q I rv q
  rcases q with q | q
  · exact h pins s σ H xs us Q I rv q
  · exact h' pins s σ H xs us Q I rv q
def rIntC : List V → Hp → VK → Prop := fun xs H Q => (∃ i, xs = [.int i] ∧ Q (.int i) H) ∨ ∃ k, xs = [.bl k] ∧ Q (.int (if k then 1 else 0)) H
theorem cr_int : CallR X (.type "int") rIntC := call_int1
def rAbsC : List V → Hp → VK → Prop := fun xs H Q => ∃ i, xs = [.int i] ∧ Q (.int (if i < 0 then -i else i)) H
theorem cr_abs : CallR X (.builtin "abs") rAbsC := call_abs
end
section
variable {K : PySem.W.Frag} {W : WX} {ρ ρ' : List Sl} {te ta tb tl : TE} {d x y z : D} {xs ys ds zs : List D} {t : TA} {i j : Int} {n : Nat}
theorem ev_addI (ha : EvD K ta ρ (.int i)) (hb : EvD K tb ρ (.int j)) : EvD K (tOp (rAddA K) ta tb) ρ (.int (i + j)) := ev_op ha hb (rvD_l rv_I0)
theorem ev_addS {s t : Str} (ha : EvD K ta ρ (.str s)) (hb : EvD K tb ρ (.str t)) (hl : s.length + t.length ≤ 100000) : EvD K (tOp (rAddA K) ta tb) ρ (.str (s ++ t)) := ev_op ha hb (rvD_r (rvD_l (rv_addS hl)))
theorem evl_addL (ha : EvD K ta ρ (.lst xs)) (hb : EvD K tb ρ (.lst ys)) (hl : xs.length + ys.length ≤ 16777216) : EvL K (tOp (rAddA K) ta tb) ρ (xs ++ ys) := evl_op ha hb (rvL_r (rvL_r (rvL_l (rv_cat hl))))
theorem ev_subI (ha : EvD K ta ρ (.int i)) (hb : EvD K tb ρ (.int j)) : EvD K (tOp (rI0 fun i j => .int (i - j)) ta tb) ρ (.int (i - j)) := ev_op ha hb rv_I0
theorem ev_mulI (ha : EvD K ta ρ (.int i)) (hb : EvD K tb ρ (.int j)) (hc : CMulX i j) : EvD K (tOp rMulA ta tb) ρ (.int (i * j)) := ev_op ha hb (rvD_l (rv_I hc))
theorem evl_rep (ha : EvD K ta ρ (.lst xs)) (hb : EvD K tb ρ (.int i)) (h1 : -(2 ^ 63) ≤ i) (h2 : i < 2 ^ 63) (hl : xs.length * i.toNat ≤ 16777216) : EvL K (tOp rMulA ta tb) ρ (List.replicate i.toNat xs).flatten := evl_op ha hb (rvL_r (rv_rep h1 h2 hl))
theorem ev_divI (ha : EvD K ta ρ (.int i)) (hb : EvD K tb ρ (.int j)) (hc : CDiv i j) : EvD K (tOp rDivA ta tb) ρ (.int (i / j)) := ev_op ha hb (rvD_l (rv_I hc))
theorem ev_divW (ha : EvD K ta ρ (.int i)) (hb : EvD K tb ρ (.int j)) (hc : CDivW i j) : EvD K (tOp rDivA ta tb) ρ (.int (i / j)) := ev_op ha hb (rvD_r (rvD_l (rv_I hc)))
theorem ev_divX (ha : EvD K ta ρ (.int i)) (hb : EvD K tb ρ (.int j)) (hc : CDivX i j) : EvD K (tOp rDivA ta tb) ρ (.int (i.fdiv j)) := ev_op ha hb (rvD_r (rvD_r (rv_I hc)))
theorem divX_of {i j : Int} (h : j ≠ 0) (b : Nat) (hb : j.natAbs < 2 ^ b) (h0 : 0 < b) (h9 : b ≤ 9000) : CDivX i j := ⟨h, Nat.lt_of_lt_of_le (PySem.Flt.log2_lt_of h0 hb) h9⟩
theorem ev_modI (ha : EvD K ta ρ (.int i)) (hb : EvD K tb ρ (.int j)) (hc : 0 < j) : EvD K (tOp (rI (fun _ j => 0 < j) fun i j => .int (i % j)) ta tb) ρ (.int (i % j)) := ev_op ha hb (rv_I hc)
theorem ev_powI (ha : EvD K ta ρ (.int i)) (hb : EvD K tb ρ (.int j)) (hc : CPow i j) : EvD K (tOp (rI CPow fun i j => .int (i ^ j.toNat)) ta tb) ρ (.int (i ^ j.toNat)) := ev_op ha hb (rv_I hc)
theorem tv_cmpI {g : Int → Int → Bool} (ha : EvD K ta ρ (.int i)) (hb : EvD K tb ρ (.int j)) : TvD K (tTest (tOp (rI0 fun i j => .bl (g i j)) ta tb)) ρ (g i j) := tv_test (ev_op ha hb rv_B0)
theorem tv_cmpIl {g : Int → Int → Bool} {r' : R2} (ha : EvD K ta ρ (.int i)) (hb : EvD K tb ρ (.int j)) : TvD K (tTest (tOp (fun x y H Q => rI0 (fun i j => .bl (g i j)) x y H Q ∨ r' x y H Q) ta tb)) ρ (g i j) := tv_test (ev_op ha hb (rvD_l rv_B0))
theorem tv_eqD (ha : EvD K ta ρ x) (hb : EvD K tb ρ y) (hx : x.ok = true) (hy : y.ok = true) : TvD K (tTest (tOp (rEqD K) ta tb)) ρ (PyData.eqv x.py y.py) := tv_test (ev_op ha hb (rv_eqD hx hy))
theorem tv_neD (ha : EvD K ta ρ x) (hb : EvD K tb ρ y) (hx : x.ok = true) (hy : y.ok = true) : TvD K (tTest (tOp (rNeD K) ta tb)) ρ (!PyData.eqv x.py y.py) := tv_test (ev_op ha hb (rv_neD hx hy))
theorem tv_eqI (ha : EvD K ta ρ (.int i)) (hb : EvD K tb ρ (.int j)) : TvD K (tTest (tOp (rEqD K) ta tb)) ρ (i == j) := tv_eq (tv_eqD ha hb rfl rfl) rfl
theorem tv_neI (ha : EvD K ta ρ (.int i)) (hb : EvD K tb ρ (.int j)) : TvD K (tTest (tOp (rNeD K) ta tb)) ρ (!(i == j)) := tv_eq (tv_neD ha hb rfl rfl) rfl
theorem ev_intC (ha : EvD K ta ρ (.int i)) : EvD K (tCB rIntC (tCons ta tNil)) ρ (.int i) := ev_cb (av_cons ha av_nil) fun F H e vs r Q q => by
  cases r with
  | cons a r =>
    cases a; cases r
    exact .inl ⟨i, rfl, q _ F H (.refl e) (.int i)⟩
theorem ev_absC (ha : EvD K ta ρ (.int i)) : EvD K (tCB rAbsC (tCons ta tNil)) ρ (.int (if i < 0 then -i else i)) := ev_cb (av_cons ha av_nil) fun F H e vs r Q q => by
  cases r with
  | cons a r =>
    cases a; cases r
    exact ⟨i, rfl, q _ F H (.refl e) (.int _)⟩
theorem ev_tupL (h : EvSL K te ρ ds) : EvD K (tCB (rTupC K) (tCons te tNil)) ρ (.tup ds) := ev_cbSL h fun F H e p vs s r Q q =>
  ⟨p, vs, rfl, .inl ⟨s, fun l hl => q _ (upd F l (.tup vs)) _ (.new e hl) (.tup upd_same (r.mono (Ex.new (e.back hl))))⟩⟩
theorem ev_tupT (h : EvD K te ρ (.tup ds)) : EvD K (tCB (rTupC K) (tCons te tNil)) ρ (.tup ds) := ev_cb (av_cons h av_nil) fun F H e vs r Q q => by
  cases r with
  | cons a r =>
    cases r
    cases a with
    | tup h1 rs => exact ⟨_, _, rfl, .inr ⟨SqT.of (e _ _ h1), q _ F H (.refl e) (.tup h1 rs)⟩⟩
theorem evl_lstL (h : EvSL K te ρ ds) : EvL K (tCB (rLstC K) (tCons te tNil)) ρ ds := evl_cbSL h fun F H e p vs s r Q q =>
  ⟨p, vs, rfl, .inl s, fun l hl => q l vs F _ (.own e hl) hl (e.back hl) upd_same r⟩
theorem evl_lstT (h : EvST K te ρ ds) : EvL K (tCB (rLstC K) (tCons te tNil)) ρ ds := fun F0 H0 F H σ R Q q =>
  h F0 H0 F H σ R _ fun p vs F1 H1 g1 s1 r1 => ⟨p, vs, rfl, .inr s1, fun l hl => q l vs F1 _ (g1.trans (.own g1.s hl)) (g1.h.back hl) (g1.s.back hl) upd_same r1⟩
theorem wi_seqL (h : WiD K (iList K te) ρ ds) : WiD K (iSeq K te) ρ ds := fun F0 H0 F H σ R Q q => .inl (h F0 H0 F H σ R Q q)
theorem wi_seqT (h : WiD K (iTup K te) ρ ds) : WiD K (iSeq K te) ρ ds := fun F0 H0 F H σ R Q q => .inr (.inl (h F0 H0 F H σ R Q q))
theorem ev_ty {n : String} : EvD K (tC (.ty n)) ρ (.ty n) := fun F0 H0 F H σ R Q q => q _ F H (.refl R.ex) (.ty n)
/-- a datum's built-in class -/
def D.tyN : D → String
  | .non => "NoneType" | .bl _ => "bool" | .int _ => "int" | .str _ => "str" | .lst _ => "list" | .tup _ => "tuple" | .tupZ _ => "tuple" | .scr _ => "list" | .dk _ _ => "dict" | .dt _ _ => "dict"
  | _ => ""
end
end DL
set_option Elab.async false
set_option linter.all false
set_option maxRecDepth 100000
set_option maxHeartbeats 1000000
/-! sorted of data; slices; locks; comprehensions with two fors. -/
namespace DL
open PySem PySem.Spec PyProof.Rows L2
/-- what may be sorted here -/
structure SortOk (ds : List PyData) : Prop where
  al : PySem.W.AllAlike ds
  so : PySem.W.Sortable ds
  dp : ∀ d ∈ ds, d.depth ≤ 8
  sz : ds.length ≤ 16777216
abbrev srtP (bs : List (V × PyData)) : List (V × PyData) := bs.mergeSort (PySem.W.dataLe false (·.2))
def rSortA (K : PySem.W.Frag) : List V → Hp → VK → Prop := fun xs H Q => ∃ (a : Addr) (bs : List (V × PyData)), xs = [.ref a] ∧ SqL K H a (bs.map (·.1)) ∧ (∀ b ∈ bs, Dp K H b.1 b.2) ∧ SortOk (bs.map (·.2)) ∧
  ∀ p, H p = none → Q (.ref p) (upd H p (.lst ((srtP bs).map (·.1))))
/-- a dict's keys, sorted -/
def keyPy : Key → PyData
  | .inl i => .int i
  | .inr s => .str s
def rSortK : List V → Hp → VK → Prop := fun xs H Q => ∃ (a : Addr) (ws : List (Key × V)), xs = [.ref a] ∧ Rd H a (.dK ws) ∧ SortOk (ws.map fun kv => keyPy kv.1) ∧
  ∀ p, H p = none → Q (.ref p) (upd H p (.lst ((srtP (ws.map fun kv => (kV kv.1, keyPy kv.1))).map (·.1))))
def rSortT : List V → Hp → VK → Prop := fun xs H Q => ∃ (a : Addr) (ws : List (List Key × V)), xs = [.ref a] ∧ Rd H a (.dT ws) ∧ SortOk (ws.map fun kv => PyData.tuple (kv.1.map keyPy)) ∧
  ∀ (p : Addr) (bs : List (V × PyData)), H p = none → bs.map (·.2) = (ws.map fun kv => PyData.tuple (kv.1.map keyPy)) → (∀ b ∈ bs, ∃ (q : Addr) (k : List Key), b.1 = V.ref q ∧ H q = some (.tup (k.map kV)) ∧ b.2 = PyData.tuple (k.map keyPy)) →
    Q (.ref p) (upd H p (.lst ((srtP bs).map (·.1))))
section
variable {X : Cx} {pins : List (Addr × Obj)} {σ : L2.St} {H : Hp} {s : Shared}
/-- the pairs of a value and its datum, each with the machine's value -/
theorem each_of (I : Inv X pins σ H s) : ∀ {bs : List (V × PyData)} {us : List Value}, Vals (bs.map (·.1)) us → (∀ b ∈ bs, Dp X.K H b.1 b.2) →
    PySem.W.EachIs (fun (u : Value) (b : V × PyData) => RelV b.1 u) us bs ∧ PySem.W.EachIs (fun (u : Value) (b : V × PyData) => ∃ as, Reads s.heap u b.2 as) us bs
  | [], us, r, _ => by
    cases r
    exact ⟨.nil, .nil⟩
  | b :: bs, us, r, h => by
    cases r with
    | cons r1 r2 =>
      obtain ⟨e1, e2⟩ := each_of I r2 fun x hx => h x (List.mem_cons_of_mem _ hx)
      exact ⟨.cons r1 e1, .cons (Dp.reads I _ _ _ (h b List.mem_cons_self) r1) e2⟩
theorem vals_each : ∀ {us : List Value} {bs : List (V × PyData)}, PySem.W.EachIs (fun (u : Value) (b : V × PyData) => RelV b.1 u) us bs → Vals (bs.map (·.1)) us
  | _, _, .nil => .nil
  | _, _, .cons h r => .cons h (vals_each r)
theorem cr_sortL (hu : X.A.units + 64 < cLine) : CallR X (.builtin "sorted") (rSortA X.K) := by
  intro pins s σ H vs us Q I r h
  obtain ⟨a, bs, rfl, hs, hd, so, q⟩ := h
  obtain ⟨its, rv, hl, hz⟩ := I.list hs
  rw [Vals.ref1 r]
  obtain ⟨e1, e2⟩ := each_of I rv hd
  refine PySem.W.sorted_data (enc := fun b : V × PyData => b.2) hl.isList e1 e2 so.al so.so ?_ (fun b hb => ?_) fun out ho eo => ?_
  · have := so.sz; rw [List.length_map] at this; exact sz_of this
  · have := so.dp b.2 (List.mem_map_of_mem hb); omega
  · obtain ⟨ep, he'⟩ := sortedAll_at s.heap its out.toArray
    have rv' := vals_each eo
    refine ⟨.ref _, upd H (s.heap.objs.size + 1) (.lst ((srtP bs).map (·.1))), I.laid (t' := s.toks) (fun _ _ => sortedAll_old) (Nat.le_succ _) ⟨?_, out, ep, rv', he'⟩, rfl, q _ (I.hok.fresh (Nat.le_succ _))⟩
    rw [List.length_map, List.length_mergeSort]
    have := so.sz; rw [List.length_map] at this; exact sz_of this
/-- keys hold no list -/
theorem reads_key {h : Heap} {v : Value} : ∀ {k : Key} {as : List Addr}, Reads h v (keyPy k) as → as = []
  | .inl i, as, r => by
    have r' : Reads h v (.int i) as := r
    cases r'; rfl
  | .inr z, as, r => by
    have r' : Reads h v (.str z) as := r
    cases r'; rfl
theorem readsAll_key {h : Heap} : ∀ {ks : List Key} {vs : List Value} {as : List Addr}, ReadsAll h vs (ks.map keyPy) as → as = []
  | [], vs, as, r => by
    have r' : ReadsAll h vs [] as := r
    cases r'; rfl
  | k :: ks, vs, as, r => by
    have r' : ReadsAll h vs (keyPy k :: ks.map keyPy) as := r
    cases r' with
    | cons r1 r2 => rw [reads_key r1, readsAll_key r2]; rfl
theorem reads_keyT {h : Heap} {v : Value} {ks : List Key} {as : List Addr} (r : Reads h v (.tuple (ks.map keyPy)) as) : as = [] := by
  cases r with
  | tuple _ _ _ r => exact readsAll_key r
/-- data without lists -/
def NoL (d : PyData) : Prop := ∀ h v as, Reads h v d as → as = []
theorem noL_key (k : Key) : NoL (keyPy k) := fun _ _ _ r => reads_key r
theorem noL_keyT (ks : List Key) : NoL (.tuple (ks.map keyPy)) := fun _ _ _ r => reads_keyT r
theorem each_noL {h : Heap} {a : Addr} {us : List Value} {bs : List (V × PyData)} (e : PySem.W.EachIs (fun (u : Value) (b : V × PyData) => ∃ as, Reads h u b.2 as) us bs) (n : ∀ b ∈ bs, NoL b.2) :
    PySem.W.EachIs (fun (u : Value) (b : V × PyData) => ∃ as, Reads h u b.2 as ∧ a ∉ as) us bs := by
  induction e with
  | nil => exact .nil
  | @cons u b us bs h1 t ih =>
    obtain ⟨as, r⟩ := h1
    exact .cons ⟨as, r, by rw [n b List.mem_cons_self _ _ _ r]; simp⟩ (ih fun x hx => n x (List.mem_cons_of_mem _ hx))
theorem each_keep {h h' : Heap} (k : ∀ b o, h.get? b = some o → h'.get? b = some o) {us : List Value} {bs : List (V × PyData)} (e : PySem.W.EachIs (fun (u : Value) (b : V × PyData) => ∃ as, Reads h u b.2 as) us bs) :
    PySem.W.EachIs (fun (u : Value) (b : V × PyData) => ∃ as, Reads h' u b.2 as) us bs := by
  induction e with
  | nil => exact .nil
  | @cons u b us bs h1 t ih =>
    obtain ⟨as, r⟩ := h1
    exact .cons ⟨as, Reads.keeps k r⟩ ih
/-- the new list of a dict's keys is sorted: what follows the collecting -/
theorem sort_tail {us : List Value} {bs : List (V × PyData)} {h' : Heap} {tk : Nat} {Q : VK} {R : Unit → Shared → Prop} (hu : X.A.units + 64 < cLine) (I1 : Inv X pins σ H { s with heap := h', toks := tk }) (rv : Vals (bs.map (·.1)) us) (hd : ∀ b ∈ bs, Dp X.K H b.1 b.2)
    (so : SortOk (bs.map (·.2))) (nl : ∀ b ∈ bs, NoL b.2) (q : ∀ p, H p = none → Q (.ref p) (upd H p (.lst ((srtP bs).map (·.1)))))
    (hR : ∀ s', EP X pins σ Q (.ref h'.objs.size) s' → R () s') (A : Around) (hA : A.units ≤ X.A.units + 40) :
    wpAny (model X.prog X.w) A (call (.builtin "list.sort") [.ref h'.objs.size]) (fun _ s' => R () s') X.xe { s with heap := h'.push (seqObj "list" us.toArray 0), toks := tk } := by
  have hb : bs.length ≤ sizeLine := by have := so.sz; rw [List.length_map] at this; exact sz_of this
  have hoL : (h'.push (seqObj "list" us.toArray 0)).get? h'.objs.size = some (seqObj "list" us.toArray 0) := Heap.get?_push_size _ rfl
  obtain ⟨e1, e2⟩ := each_of I1 rv hd
  have e3 := each_keep (h' := h'.push (seqObj "list" us.toArray 0)) (fun b o e => Heap.get?_push_of_some _ e) e2
  refine PySem.W.list_sort_data (enc := fun b : V × PyData => b.2) (s := { s with heap := h'.push (seqObj "list" us.toArray 0), toks := tk }) hoL e1 (each_noL e3 nl) so.al so.so hb (fun b hb => ?_) fun out ho eo => ?_
  · have := so.dp b.2 (List.mem_map_of_mem hb); omega
  · obtain ⟨ep, he'⟩ := sortedHeap_at (vs := us) (out := out.toArray) hoL
    have rv' := vals_each eo
    refine hR _ ⟨.ref h'.objs.size, upd H h'.objs.size (.lst ((srtP bs).map (·.1))), I1.laid (t' := tk) (fun b u e => ?_) (Nat.le_refl _) ⟨?_, out, ep, rv', he'⟩, rfl, q _ (I1.hok.fresh (Nat.le_refl _))⟩
    · have hb : b < h'.objs.size := Heap.lt_size e
      rw [sortedHeap_old (Nat.ne_of_lt hb) (by rw [size_push']; exact Nat.lt_succ_of_lt hb)]
      exact Heap.get?_push_of_some _ e
    · rw [List.length_map, List.length_mergeSort]; exact hb
theorem cr_sortT (hc : X.calm = true) (hu : X.A.units + 64 < cLine) : CallR X (.builtin "sorted") rSortT := by
  intro pins s σ H xs us Q I r h
  obtain ⟨a, ws, rfl, hd, so, q⟩ := h
  obtain ⟨u, rfl, rx⟩ := r.one
  cases rx
  obtain ⟨z, hs, ks, pr, o, es, ep, ho, hx, hdt, he, hn⟩ := (show ObjOk X.prog X.w H s.heap a (.dT ws) from hd.ok I.hok)
  have l1 : es.size = ks.length := size_of_entries he
  have l2 : ws.length = ks.length := Paired.length pr
  refine Calls.call_function_entry kind_sorted plain_sorted entry_sorted (args_sorted1 _) ?_
  unfold Builtin.«sorted»
  refine wpAny_bind (m := checkCount "sorted" 1 1 _) (wpAny_pure ?_)
  refine wpAny_bind (PySem.W.kdu_collect (A := X.A.in1) (kdl_raw hs hx hdt) (I.ok.hd hc) ho (by omega) fun h' tk acc hk hacc => ?_)
  have keysAre : ∀ {kv : List (List Key × V)} {ys : List (List Key × Addr × Value)}, Paired (fun (p : List Key × V) (q : List Key × Addr × Value) => p.1 = q.1 ∧ H q.2.1 = some (.tup (p.1.map kV)) ∧ RelV p.2 q.2.2) kv ys →
      (ys.map fun x => (V.ref x.2.1, PyData.tuple (x.1.map keyPy))).map (·.2) = kv.map (fun kv => PyData.tuple (kv.1.map keyPy)) ∧
        ∀ b ∈ ys.map fun x => (V.ref x.2.1, PyData.tuple (x.1.map keyPy)), ∃ (q : Addr) (k : List Key), b.1 = V.ref q ∧ H q = some (.tup (k.map kV)) ∧ b.2 = PyData.tuple (k.map keyPy) := by
    intro kv ys p
    induction p with
    | nil => exact ⟨rfl, fun _ z => nomatch z⟩
    | cons h t ih =>
      refine ⟨?_, fun b hb => ?_⟩
      · rw [List.map_cons, List.map_cons, List.map_cons, ih.1, h.1]
      · rw [List.map_cons] at hb
        rcases List.mem_cons.mp hb with e | e
        · rw [e]; exact ⟨_, _, rfl, h.2.1, by rw [h.1]⟩
        · exact ih.2 b e
  have ea : acc.toList = (ks.map fun x => x.2.1).map Value.ref := by
    apply List.ext_getElem?
    intro j
    rw [List.map_map, List.getElem?_map]
    cases hj : acc.toList[j]? with
    | none =>
      have h1 := List.getElem?_eq_none_iff.mp hj
      rw [Array.length_toList, hacc.1] at h1
      rw [List.getElem?_eq_none (by omega)]; rfl
    | some v =>
      obtain ⟨en, hen, hv⟩ := hacc.2 j v (by rw [← Array.getElem?_toList]; exact hj)
      have qe := entry_at he j
      rw [hen] at qe
      cases hb : ks[j]? with
      | none => rw [hb] at qe; cases qe
      | some b =>
        rw [hb] at qe
        have e2 : en = entryOfKey (tupleKind (mixKind X.prog X.w)) b := Option.some.inj qe
        rw [hv, e2]; rfl
  obtain ⟨k1, k2⟩ := keysAre pr
  have rv : Vals ((ks.map fun x => (V.ref x.2.1, PyData.tuple (x.1.map keyPy))).map (·.1)) acc.toList := by
    rw [ea, List.map_map]
    have := vals_refs (ks.map fun x => x.2.1)
    rw [List.map_map] at this
    exact this
  have I1 : Inv X pins σ H { s with heap := h', toks := tk } := I.kept hk
  have dpk : ∀ ks : List Key, DpAll X.K H (ks.map kV) (ks.map keyPy) := fun ks => by
    induction ks with
    | nil => exact .nil
    | cons k r ih =>
      cases k with
      | inl i => exact .cons (.int i) ih
      | inr z => exact .cons (.str z) ih
  refine wpAny_bind (wpAny_newList ?_ (by rw [Array.length_toList, hacc.1]; omega))
  show wpAny _ _ _ _ _ { s with heap := h'.push (seqObj "list" acc.toList.toArray 0), toks := tk }
  refine wpAny_bind (wpAny_holding (wpAny_mono (sort_tail (X := X) (pins := pins) (σ := σ) (s := s) (Q := Q) (R := fun _ s' => EP X pins σ Q (.ref h'.objs.size) s') hu I1 rv (fun b hb => ?_) (by rw [k1]; exact so) (fun b hb => ?_) (fun p hp => q p _ hp k1 k2) (fun s' h => h) _ (by show X.A.units + 1 ≤ _; omega)) (fun _ s' h => ?_) fun _ _ h => h))
  · obtain ⟨t, k, e1, e2, e3⟩ := k2 b hb
    rw [e1, e3]; exact .tup (SqT.of e2) (dpk k)
  · obtain ⟨t, k, e1, e2, e3⟩ := k2 b hb
    rw [e3]; exact noL_keyT k
  · exact wpAny_pure ⟨_, rfl, h⟩
end
end DL
set_option Elab.async false
set_option linter.all false
set_option maxRecDepth 100000
set_option maxHeartbeats 1000000
/-! Slices, locked dicts, comprehensions with two fors, over plain data. -/
namespace DL
open PySem PySem.Spec PyProof.Rows L2
section
variable {X : Cx} {K : PySem.W.Frag}
def rSlAny (K : PySem.W.Frag) : V → Option Int → Option Int → Hp → VK → Prop := fun x lo hi H Q => rSlL K x lo hi H Q ∨ (fun x lo hi H Q => rSlA K x lo hi H Q ∨ rSlS x lo hi H Q) x lo hi H Q
theorem sl_any : L2.SlR X (rSlAny X.K) := L2.SlR.or sl_list (L2.SlR.or sl_tupA sl_str)
/-- a for over a name that may be an unlocked dict -/
def tLockA (t : TS) : TS := fun D σ H => tLock t D σ H ∨ t D σ H
theorem ps_lockA {st : Stmt} {t : TS} (h : PS X st t) : PS X st (tLockA t) := by
  refine ⟨fun pins s σ H D I q => ?_⟩
  rcases q with q | q
  · exact (ps_lock h).run pins s σ H D I q
  · exact h.run pins s σ H D I q
def tLockEA (t : TE) : TE := fun σ H Q => tLockE t σ H Q ∨ t σ H Q
theorem pe_lockA {e : Expr} {t : TE} (h : PE X e t) : PE X e (tLockEA t) := by
  refine ⟨fun pins s σ H D I q => ?_⟩
  rcases q with q | q
  · exact (pe_lock h).run pins s σ H D I q
  · exact h.run pins s σ H D I q
end
section
variable {K : PySem.W.Frag} {W : WX} {ρ ρ' : List Sl} {te ta tb tl : TE} {d x y z : D} {xs ys ds zs : List D} {t : TA} {i j : Int} {n : Nat} {o : Out}
/-! ### slices -/
def PoD (K : PySem.W.Frag) (to : TO) (ρ : List Sl) (o : Option Int) : Prop := ∀ (F0 H0 F H : Hp) (σ : L2.St), RelS K F0 H0 F H σ ρ → ∀ Q : Option Int → Hp → Prop, (∀ F' H', Gr F H F' H' → Q o H') → to σ H Q
theorem po_no : PoD K tNoPart ρ none := fun F0 H0 F H σ R Q q => q F H (.refl R.ex)
theorem po_is (h : EvD K te ρ (.int i)) : PoD K (tPart te) ρ (some i) := fun F0 H0 F H σ R Q q => h F0 H0 F H σ R _ fun v F1 H1 g1 r1 => by
  cases r1
  exact ⟨i, rfl, q F1 H1 g1⟩
/-- a piece of a list -/
def cutD {α : Type} (xs : List α) (lo hi : Option Int) : List α := (xs.drop (HT.sIx xs.length 0 lo)).take (HT.sIx xs.length xs.length hi - HT.sIx xs.length 0 lo)
theorem reps_cut {F : Hp} {vs : List V} (r : Reps K F vs ds) (lo hi : Option Int) : Reps K F (cutV vs lo hi) (cutD ds lo hi) := by
  show Reps K F ((vs.drop _).take _) _
  unfold cutD
  rw [← r.length]
  exact (r.drop _).take _
theorem evl_slL {tlo thi : TO} {lo hi : Option Int} (h : EvSL K te ρ ds) (h1 : PoD K tlo ρ lo) (h2 : PoD K thi ρ hi) : EvL K (tSl (rSlAny K) te tlo thi) ρ (cutD ds lo hi) := fun F0 H0 F H σ R Q q =>
  h F0 H0 F H σ R _ fun p vs F1 H1 g1 s1 r1 => h1 F0 H0 F1 H1 σ (R.grow g1) _ fun F2 H2 g2 => h2 F0 H0 F2 H2 σ (R.grow (g1.trans g2)) _ fun F3 H3 g3 =>
    .inl ⟨p, vs, rfl, (g2.trans g3).h.sl s1, fun l hl => q l _ F3 _ ((g1.trans (g2.trans g3)).trans (.own g3.s hl)) ((g1.trans (g2.trans g3)).h.back hl) (g3.s.back hl) upd_same (reps_cut (r1.mono (g2.trans g3).f) lo hi)⟩
theorem ev_slT {tlo thi : TO} {lo hi : Option Int} (h : EvD K te ρ (.tup ds)) (h1 : PoD K tlo ρ lo) (h2 : PoD K thi ρ hi) : EvD K (tSl (rSlAny K) te tlo thi) ρ (.tup (cutD ds lo hi)) := fun F0 H0 F H σ R Q q =>
  h F0 H0 F H σ R _ fun v F1 H1 g1 r1 => h1 F0 H0 F1 H1 σ (R.grow g1) _ fun F2 H2 g2 => h2 F0 H0 F2 H2 σ (R.grow (g1.trans g2)) _ fun F3 H3 g3 => by
    cases r1 with
    | @tup a vs _ ha ra =>
      have gA := g1.trans (g2.trans g3)
      have ha3 := (g2.trans g3).f _ _ ha
      have ra3 := ra.mono (g2.trans g3).f
      refine .inr (.inl ⟨a, vs, rfl, SqT.of (g3.s _ _ ha3), fun hw => q _ F3 H3 gA ?_, fun _ l hl => q _ (upd F3 l (.tup (cutV vs lo hi))) _ (gA.trans (.new g3.s hl)) (.tup upd_same ((reps_cut ra3 lo hi).mono (Ex.new (g3.s.back hl))))⟩)
      have e : cutD ds lo hi = ds := by
        unfold cutD
        rw [← ra.length, hw.1, hw.2, List.drop_zero, Nat.sub_zero, ra.length, List.take_length]
      rw [e]
      exact .tup ha3 ra3
theorem ev_slS {tlo thi : TO} {lo hi : Option Int} {s : PySem.Str} (h : EvD K te ρ (.str s)) (h1 : PoD K tlo ρ lo) (h2 : PoD K thi ρ hi) (hl : s.length ≤ 100000) : EvD K (tSl (rSlAny K) te tlo thi) ρ (.str (cutS s lo hi)) := fun F0 H0 F H σ R Q q =>
  h F0 H0 F H σ R _ fun v F1 H1 g1 r1 => h1 F0 H0 F1 H1 σ (R.grow g1) _ fun F2 H2 g2 => h2 F0 H0 F2 H2 σ (R.grow (g1.trans g2)) _ fun F3 H3 g3 => by
    cases r1
    exact .inr (.inr ⟨s, rfl, Nat.le_trans hl (by decide), q _ F3 H3 (g1.trans (g2.trans g3)) (.str _)⟩)
/-! ### locked dicts -/
/-- the dict at a is locked, where it stands -/
def lk (a : Addr) (u l : HO) (H : Hp) : Hp := fun b => if b = a then (match H b with | some _ => some l | none => none) else H b
theorem lk_ne {a b : Addr} {u l : HO} {H : Hp} (e : b ≠ a) : lk a u l H b = H b := if_neg e
theorem lk_at {a : Addr} {u l o : HO} {H : Hp} (h : H a = some o) : lk a u l H a = some l := by
  unfold lk; rw [if_pos rfl, h]
theorem lk_no {a : Addr} {u l : HO} {H : Hp} (h : H a = none) : lk a u l H a = none := by
  unfold lk; rw [if_pos rfl, h]
theorem lk_upd {a : Addr} {u l o : HO} {H : Hp} (h : H a = some o) : lk a u l H = upd H a l := by
  funext b
  by_cases e : b = a
  · subst e; rw [lk_at h, upd_same]
  · rw [lk_ne e, upd_ne e]
theorem lk_ex {a : Addr} {u l : HO} {F H : Hp} (e : Ex F H) : Ex (lk a u l F) (lk a u l H) := fun b o h => by
  by_cases z : b = a
  · subst z
    cases h1 : F b with
    | none => rw [lk_no h1] at h; cases h
    | some o1 => rw [lk_at h1] at h; cases h; exact lk_at (e b o1 h1)
  · rw [lk_ne z] at h ⊢; exact e b o h
theorem lk_tol {a : Addr} {u l : HO} {F : Hp} (hu : ∀ o, F a = some o → str1 l = str1 o) : Tol F (lk a u l F) := fun b o h => by
  by_cases z : b = a
  · subst z; exact ⟨l, lk_at h, hu o h⟩
  · exact ⟨o, by rw [lk_ne z]; exact h, rfl⟩
theorem own_lk {a p : Addr} {u l : HO} {H0 F H : Hp} {x : Sl} (hne : p ≠ a) (hu : ∀ o, F a = some o → str1 l = str1 o) (h : OwnR K H0 F H p x) : OwnR K (lk a u l H0) (lk a u l F) (lk a u l H) p x := by
  have t := lk_tol (u := u) hu
  cases x with
  | no => exact h
  | d x => exact h
  | ol xs => obtain ⟨h1, h2, vs, h3, h4⟩ := h; exact ⟨by rw [lk_ne hne]; exact h1, by rw [lk_ne hne]; exact h2, vs, by rw [lk_ne hne]; exact h3, h4.tol t⟩
  | ok xs => obtain ⟨h1, h2, vs, h3, n, h4⟩ := h; exact ⟨by rw [lk_ne hne]; exact h1, by rw [lk_ne hne]; exact h2, vs, by rw [lk_ne hne]; exact h3, n, h4.tol t⟩
  | ot xs => obtain ⟨h1, h2, vs, h3, n, h4⟩ := h; exact ⟨by rw [lk_ne hne]; exact h1, by rw [lk_ne hne]; exact h2, vs, by rw [lk_ne hne]; exact h3, n, h4.tol t⟩
/-- the whole state with the frozen dict at a locked (or unlocked) -/
theorem RelS.lk {F0 H0 F H : Hp} {σ : L2.St} (R : RelS K F0 H0 F H σ ρ) {a : Addr} {u l : HO} (ha : F a = some u) (hs : str1 l = str1 u) (hu : tupO u = false) : RelS K (DL.lk a u l F0) (DL.lk a u l H0) (DL.lk a u l F) (DL.lk a u l H) σ ρ := by
  have hul : ∀ o, F a = some o → str1 l = str1 o := fun o h => by rw [ha] at h; cases h; exact hs
  refine ⟨⟨lk_ex R.gr.f, lk_ex R.gr.h, lk_ex R.gr.s, fun p o h1 t h2 => ?_⟩, R.len, fun i x v h1 h2 => ?_, R.ne⟩
  · by_cases z : p = a
    · subst z
      exfalso
      cases e0 : F0 p with
      | some o0 => rw [lk_at e0] at h2; cases h2
      | none =>
        cases e1 : H0 p with
        | none => rw [lk_no e1] at h1; cases h1
        | some o1 =>
          have hH : H p = some u := R.ex _ _ ha
          have := R.gr.h _ _ e1
          rw [hH] at this; cases this
          have := R.gr.n p _ e1 hu e0
          rw [ha] at this; cases this
    · rw [lk_ne z] at h1 h2 ⊢; exact R.gr.n p o h1 t h2
  · have q := R.sl i x v h1 h2
    by_cases ox : x.own = true
    · obtain ⟨p, rfl, hp⟩ := (DL.SlR.own ox).mp q
      refine (DL.SlR.own ox).mpr ⟨p, rfl, own_lk (fun z => ?_) hul hp⟩
      subst z
      rw [hp.tells.2.1] at ha; cases ha
    · cases x with
      | no => trivial
      | d x => obtain ⟨v', e, r⟩ := q; exact ⟨v', e, r.tol (lk_tol hul)⟩
      | ol _ => exact absurd rfl ox
      | ok _ => exact absurd rfl ox
      | ot _ => exact absurd rfl ox
/-- locked and unlocked again -/
theorem lk_back {a : Addr} {u l u' l' : HO} {F0 : Hp} (h : ∀ o, F0 a = some o → o = l') : DL.lk a u' l' (DL.lk a u l F0) = F0 := by
  funext b
  by_cases z : b = a
  · subst z
    cases e : F0 b with
    | none => rw [lk_no (lk_no e)]
    | some o => rw [lk_at (lk_at e), h o e]
  · rw [lk_ne z, lk_ne z]
theorem mut_dict {u : HO} (h : (∃ k, u = .dK k) ∨ ∃ k, u = .dT k) : Mut (some u) := by
  rcases h with ⟨k, rfl⟩ | ⟨k, rfl⟩ <;> trivial
/-- what a slot's dict is, and its keys -/
def KeysD (u : D) (ds : List D) : Prop := (∃ ks es, u = .dk ks es ∧ ds = ks.map kD) ∨ ∃ ks es, u = .dt ks es ∧ ds = ks.map fun k => D.tup (k.map kD)
def Locked (F : Hp) (a : Addr) (ds : List D) : Prop := ∃ ob, (∃ ws : List (Key × V), F a = some (.frz ob (.dK ws)) ∧ ds = ws.map fun kv => kD kv.1) ∨ ∃ ws : List (List Key × V), F a = some (.frz ob (.dT ws)) ∧ ds = ws.map fun kv => D.tup (kv.1.map kD)
theorem wi_locked {F H : Hp} {σ : L2.St} {s : Nat} {a : Addr} (e : Ex F H) (h1 : σ[s]? = some (some (.ref a))) (h : Locked F a ds) (R' : It → Hp → Prop) (hR : ∀ J A F' H', Gr F H F' H' → Src K J ds A → A F' → R' J H') : iSeq K (tVar s) σ H R' := by
  obtain ⟨ob, ⟨ws, h2, rfl⟩ | ⟨ws, h2, rfl⟩⟩ := h
  · exact .inr (.inr ⟨_, h1, a, ob, rfl, .inl ⟨ws, e _ _ h2, hR _ _ F H (.refl e) src_keys h2⟩⟩)
  · exact .inr (.inr ⟨_, h1, a, ob, rfl, .inr ⟨ws, e _ _ h2, hR _ _ F H (.refl e) src_keysT h2⟩⟩)
theorem map_zip_fst {α β γ : Type} (f : α → γ) : ∀ {l : List α} {m : List β}, l.length = m.length → (l.zip m).map (fun p => f p.1) = l.map f
  | [], _, _ => rfl
  | a :: l, [], h => by cases h
  | a :: l, b :: m, h => by rw [List.zip_cons_cons, List.map_cons, List.map_cons, map_zip_fst f (by simpa using h)]
/-- a slot's dict is locked already, or it can be locked -/
theorem dict_state {F : Hp} {v : V} {u0 : D} (r : Rep K F v u0) (h : KeysD u0 ds) : ∃ a, v = .ref a ∧ (Locked F a ds ∨ ∃ u, F a = some u ∧ Mut (some u) ∧ tupO u = false ∧ (∀ ob, str1 (.frz ob u) = str1 u) ∧ (∀ ob, ∀ F' : Hp, F' a = some (.frz ob u) → Locked F' a ds)) := by
  rcases h with ⟨ks, es, rfl, rfl⟩ | ⟨ks, es, rfl, rfl⟩
  · cases r with
    | @dk a o _ vs _ h1 hs l rs =>
      refine ⟨a, rfl, ?_⟩
      unfold str1 at hs
      split at hs
      · cases hs; exact .inl ⟨_, .inl ⟨_, h1, (map_zip_fst kD l).symm⟩⟩
      · cases hs
      · subst hs; exact .inr ⟨_, h1, trivial, rfl, fun _ => rfl, fun ob F' h' => ⟨ob, .inl ⟨_, h', (map_zip_fst kD l).symm⟩⟩⟩
  · cases r with
    | @dt a o _ vs _ h1 hs l rs =>
      refine ⟨a, rfl, ?_⟩
      unfold str1 at hs
      split at hs
      · cases hs
      · cases hs; exact .inl ⟨_, .inr ⟨_, h1, (map_zip_fst (fun k => D.tup (List.map kD k)) l).symm⟩⟩
      · subst hs; exact .inr ⟨_, h1, trivial, rfl, fun _ => rfl, fun ob F' h' => ⟨ob, .inr ⟨_, h', (map_zip_fst (fun k => D.tup (List.map kD k)) l).symm⟩⟩⟩
theorem ex_unlk {a : Addr} {u l : HO} {F F2 : Hp} (hl : F a = some u) (e : Ex (DL.lk a u l F) F2) : Ex F (upd F2 a u) := fun b o h => by
  by_cases z : b = a
  · subst z; rw [hl] at h; cases h; exact upd_same
  · rw [upd_ne z]; exact e b o (by rw [lk_ne z]; exact h)
/-- a state behind the lock, unlocked -/
theorem RelS.unlk {F0 H0 F H F2 H2 : Hp} {σ σ' : L2.St} {ρ0 : List Sl} (R : RelS K F0 H0 F H σ ρ0) {a : Addr} {u : HO} {ob : Obj} (ha : F a = some u) (hs : str1 (.frz ob u) = str1 u) (hu : tupO u = false) (R2 : RelS K (DL.lk a u (.frz ob u) F0) (DL.lk a u (.frz ob u) H0) F2 H2 σ' ρ) (e : F2 a = some (.frz ob u)) :
    RelS K F0 H0 (upd F2 a u) (upd H2 a u) σ' ρ := by
  have R3 := R2.lk (u := .frz ob u) (l := u) e hs.symm rfl
  have hH : H a = some u := R.ex _ _ ha
  have f0 : ∀ o, F0 a = some o → o = u := fun o h => by
    have := R.gr.f _ _ h
    rw [ha] at this; exact (Option.some.inj this).symm
  have h0 : ∀ o, H0 a = some o → o = u := fun o h => by
    have := R.gr.h _ _ h
    rw [hH] at this; exact (Option.some.inj this).symm
  rw [lk_back f0, lk_back h0, lk_upd e, lk_upd (R2.ex _ _ e)] at R3
  exact R3
/-- a loop over the keys of the dict in slot s -/
theorem sv_forKeys {s : Nat} {g : TG} {tb : TS} {u0 : D} (hs : ρ[s]? = some (.d u0)) (hd : KeysD u0 ds) (hr : Run (Turn1 K W g tb) ds ρ o) (hne : ∀ C fs ρ', o ≠ .er C fs ρ') : SvD K W (tLockA (tFor (iSeq K (tVar s)) g tb)) ρ o := fun E F0 H0 F H σ R p => by
  obtain ⟨v, h1, rv⟩ := R.get hs
  obtain ⟨a, rfl, hk | ⟨u, ha, hm, hu, hst, hL⟩⟩ := dict_state rv hd
  · exact .inr (for_at R (fun R' hR => wi_locked R.ex h1 hk R' hR) hr p)
  · refine .inl ⟨a, u, R.ex _ _ ha, hm, fun ob => ?_⟩
    have hH : H a = some u := R.ex _ _ ha
    have R1 := R.lk (u := u) (l := .frz ob u) ha (hst ob) hu
    have eF : DL.lk a u (.frz ob u) F a = some (.frz ob u) := lk_at ha
    have eH : DL.lk a u (.frz ob u) H = upd H a (.frz ob u) := lk_upd hH
    rw [← eH]
    refine for_at R1 (fun R' hR => wi_locked R1.ex h1 (hL ob _ eF) R' hR) hr ?_
    have back : ∀ {F2 H2 : Hp} {σ' : L2.St} {ρ'' : List Sl}, Ex (DL.lk a u (.frz ob u) F) F2 → RelS K (DL.lk a u (.frz ob u) F0) (DL.lk a u (.frz ob u) H0) F2 H2 σ' ρ'' → H2 a = some (.frz ob u) ∧ Ex F (upd F2 a u) ∧ RelS K F0 H0 (upd F2 a u) (upd H2 a u) σ' ρ'' := fun {F2 H2 σ' ρ''} e R2 =>
      ⟨R2.ex _ _ (e _ _ eF), ex_unlk ha e, R.unlk ha (hst ob) hu R2 (e _ _ eF)⟩
    cases o with
    | nx ρ' => exact fun σ' F2 H2 e R2 => let ⟨x1, x2, x3⟩ := back e R2; ⟨x1, p σ' _ _ x2 x3⟩
    | bk ρ' => exact fun σ' F2 H2 e R2 => let ⟨x1, x2, x3⟩ := back e R2; ⟨x1, p σ' _ _ x2 x3⟩
    | ct ρ' => exact fun σ' F2 H2 e R2 => let ⟨x1, x2, x3⟩ := back e R2; ⟨x1, p σ' _ _ x2 x3⟩
    | rt d =>
      refine fun v' F2 H2 e g2 r2 => ?_
      have Rr : RelS K (DL.lk a u (.frz ob u) F0) (DL.lk a u (.frz ob u) H0) F2 H2 [some v'] [.d d] := ⟨g2, rfl, fun i x o h3 h4 => by
        cases i with
        | zero => simp at h3 h4; subst h3; subst h4; exact ⟨v', rfl, r2⟩
        | succ i => simp at h3, fun i j x y q h3 _ h5 _ _ _ => by
        cases i with
        | zero => simp at h3; subst h3; cases h5
        | succ i => simp at h3⟩
      obtain ⟨x1, x2, x3⟩ := back e Rr
      obtain ⟨v2, h3, h4⟩ := x3.get (i := 0) (x := d) rfl
      simp at h3; subst h3
      exact ⟨x1, p v' _ _ x2 x3.gr h4⟩
    | er C fs ρ' => exact absurd rfl (hne C fs ρ')
end
end DL
set_option Elab.async false
set_option linter.all false
set_option maxRecDepth 100000
set_option maxHeartbeats 1000000
/-! Comprehensions over dicts and with two fors; sorted, list of dicts; order of data. -/
namespace DL
open PySem PySem.Spec PyProof.Rows L2
section
variable {K : PySem.W.Frag} {W : WX} {ρ ρ' : List Sl} {te ta tb tl : TE} {d x y z : D} {xs ys ds zs : List D} {t : TA} {i j : Int} {n : Nat} {o : Out}
/-- a comprehension over the keys of the dict in slot s -/
theorem evl_lcKeys {s : Nat} {g : TG} {tt : TT} {vs : List Nat} {f : D → Option D} {u0 : D} (hs : ρ[s]? = some (.d u0)) (hd : KeysD u0 ds) (hf : ∀ d ∈ ds, Cmp1 K g tt te vs (wipeS ρ vs) d (f d)) (hl : ds.length ≤ 16777215) :
    EvL K (tLockEA (tLc (iSeq K (tVar s)) g tt te vs)) ρ (ds.filterMap f) := fun F0 H0 F H σ R Q q => by
  obtain ⟨v, h1, rv⟩ := R.get hs
  obtain ⟨a, rfl, hk | ⟨u, ha, hm, hu, hst, hL⟩⟩ := dict_state rv hd
  · exact .inr (lc_at R (fun R' hR => wi_locked R.ex h1 hk R' hR) hf hl q)
  · refine .inl ⟨a, u, R.ex _ _ ha, hm, fun ob => ?_⟩
    have hH : H a = some u := R.ex _ _ ha
    have R1 := R.lk (u := u) (l := .frz ob u) ha (hst ob) hu
    have eF : DL.lk a u (.frz ob u) F a = some (.frz ob u) := lk_at ha
    have eH : DL.lk a u (.frz ob u) H = upd H a (.frz ob u) := lk_upd hH
    rw [← eH]
    refine lc_at R1 (fun R' hR => wi_locked R1.ex h1 (hL ob _ eF) R' hR) hf hl fun p ws F2 H2 g2 hp hf2 h2 r2 => ?_
    have e2 : F2 a = some (.frz ob u) := g2.f _ _ eF
    have pa : p ≠ a := fun z => by
      subst z
      rw [e2] at hf2; cases hf2
    have hpH : H p = none := by rw [eH, upd_ne pa] at hp; exact hp
    have R2 : RelS K (DL.lk a u (.frz ob u) F0) (DL.lk a u (.frz ob u) H0) F2 H2 σ ρ := R1.grow g2
    have R3 := R.unlk ha (hst ob) hu R2 e2
    have tol : Tol F2 (upd F2 a u) := fun b o h => by
      by_cases z : b = a
      · subst z; rw [e2] at h; cases h; exact ⟨u, upd_same, (hst ob).symm⟩
      · exact ⟨o, by rw [upd_ne z]; exact h, rfl⟩
    refine ⟨g2.h _ _ (by rw [eH]; exact upd_same), q p ws (upd F2 a u) (upd H2 a u) ⟨ex_unlk ha g2.f, ?_, ?_, ?_⟩ hpH (by rw [upd_ne pa]; exact hf2) (by rw [upd_ne pa]; exact h2) (r2.tol tol)⟩
    · exact ex_unlk (l := .frz ob u) hH g2.h
    · exact g2.s.updB
    · intro b o h1 t h2
      by_cases z : b = a
      · subst z; rw [ha] at h2; cases h2
      · rw [upd_ne z]
        exact g2.n b o (by rw [lk_ne z]; exact h1) t (by rw [lk_ne z]; exact h2)
/-- one turn of the inner for of a comprehension with two: rows for the items of the outer one -/
def Cmp2 (K : PySem.W.Frag) (g : TG) (tt : TT) (wi1 : TI) (g1 : TG) (tt1 : TT) (te : TE) (vs vs1 : List Nat) (ρ : List Sl) (d : D) (r : List D) : Prop :=
  ∃ is ρ1 b, TgD K g is d ρ ρ1 ∧ (∀ j ∈ is, j ∈ vs) ∧ TvD K tt ρ1 b ∧ (b = false → r = []) ∧
    (b = true → ∃ (es : List D) (f : D → Option D), WiD K wi1 ρ1 es ∧ r = es.filterMap f ∧ (∀ j ∈ vs1, j ∈ vs) ∧ ∀ e ∈ es, Cmp1 K g1 tt1 te vs1 (wipeS ρ1 vs1) e (f e))
theorem flatMap_take {α β : Type} {f : α → List β} {l : List α} {i : Nat} {a : α} (h : l[i]? = some a) : (l.take (i + 1)).flatMap f = (l.take i).flatMap f ++ f a := by
  rw [List.take_add_one, List.flatMap_append, h]
  simp
theorem len_flatMap_take {α β : Type} (f : α → List β) (l : List α) (i : Nat) : ((l.take i).flatMap f).length ≤ (l.flatMap f).length := by
  conv => rhs; rw [← List.take_append_drop i l]
  rw [List.flatMap_append, List.length_append]
  omega
theorem wipeS_own {ρ : List Sl} : ∀ (vs : List Nat) {j : Nat} {y : Sl}, (wipeS ρ vs)[j]? = some y → y.own = true → j ∉ vs ∧ ρ[j]? = some y
  | [], j, y, h, o => ⟨by simp, h⟩
  | v :: vs, j, y, h, o => by
    unfold wipeS at h
    rcases get_set h with ⟨e, rfl⟩ | ⟨e, h⟩
    · cases o
    · obtain ⟨h1, h2⟩ := wipeS_own vs h o
      exact ⟨by rw [List.mem_cons]; rintro (z | z); exact e z.symm; exact h1 z, h2⟩
theorem ev_lc2 {wi wi1 : TI} {g g1 : TG} {tt tt1 : TT} {vs vs1 : List Nat} {f : D → List D} (hw : WiD K wi ρ ds) (hs : ∀ d ∈ ds, Cmp2 K g tt wi1 g1 tt1 te vs vs1 (wipeS ρ vs) d (f d)) (hl : (ds.flatMap f).length ≤ 16777215) :
    EvL K (tLc2 wi g tt wi1 g1 tt1 te vs vs1) ρ (ds.flatMap f) := fun F0 H0 F H σ R Q q =>
  hw F0 H0 F H σ R _ fun J A F1 H1 gr1 src a1 => fun Dl hD => by
    have hD0 : H Dl = none := gr1.h.back hD
    have hDF1 : F1 Dl = none := gr1.s.back hD
    have hD00 : H0 Dl = none := R.gr.h.back hD0
    have Rw : RelS K F0 H0 F1 H1 (L2.wipe σ vs) (wipeS ρ vs) := (R.grow gr1).wipe vs
    have fr := Rw.fresh hD
    refine ⟨fun i m H' => ∃ F' acc, m = ds.length - i ∧ i ≤ ds.length ∧ Gr F H F' H' ∧ RelS K F0 H0 F' H' (L2.wipe σ vs) (wipeS ρ vs) ∧ Ex F1 F' ∧ F' Dl = none ∧ H' Dl = some (.lst acc) ∧ Reps K F' acc ((ds.take i).flatMap f),
      ⟨ds.length, F1, [], rfl, Nat.zero_le _, gr1.side hD0 hDF1, Rw.side hD00 hDF1 fr, Ex.refl F1, hDF1, upd_same, .nil⟩, ?_⟩
    rintro i m H' ⟨F', acc, rfl, hi, g', R', ex, hDF, hDH, ra⟩
    have a' := src.keep _ _ a1 ex
    by_cases hlt : i < ds.length
    · refine .inr ⟨src.go i F' H' hlt a' R'.ex, fun H2 => ∃ F2 acc, Gr F H F2 H2 ∧ RelS K F0 H0 F2 H2 (L2.wipe σ vs) (wipeS ρ vs) ∧ Ex F1 F2 ∧ F2 Dl = none ∧ H2 Dl = some (.lst acc) ∧ Reps K F2 acc ((ds.take (i + 1)).flatMap f),
        fun H2 ⟨F2, acc, x1, x2, x3, x4, x5, x6⟩ => ⟨ds.length - (i + 1), by omega, F2, acc, rfl, hlt, x1, x2, x3, x4, x5, x6⟩, fun x H2 y => ?_⟩
      obtain ⟨d, hd⟩ : ∃ d, ds[i]? = some d := ⟨ds[i], List.getElem?_eq_getElem hlt⟩
      obtain ⟨F2, g2, rx⟩ := src.yld i F' H' x H2 d hd a' R'.ex y
      obtain ⟨is, ρ1, b, tg, sub, tv, hf, ht⟩ := hs d (List.mem_of_getElem? hd)
      refine tg.2 F0 H0 F2 H2 _ x (R'.grow g2) rx _ fun σ3 R3 l3 k3 => ⟨?_, ?_⟩
      · rw [wipe_same l3 k3 sub, wipe_wipe]
      · refine tv F0 H0 F2 H2 σ3 R3 _ fun F3 H3 g3 => ?_
        have gA := (g'.trans g2).trans g3
        have RA := (R'.grow g2).grow g3
        have nD : F3 Dl = none := g3.n _ _ (g2.h _ _ hDH) rfl (g2.n _ _ hDH rfl hDF)
        have hD3 := g3.h _ _ (g2.h _ _ hDH)
        have ra3 := (ra.mono g2.f).mono g3.f
        have ex3 := (ex.trans g2.f).trans g3.f
        cases b with
        | false =>
          show ∃ F2 acc, _
          refine ⟨F3, acc, gA, RA, ex3, nD, hD3, ?_⟩
          rw [flatMap_take hd, hf rfl, List.append_nil]
          exact ra3
        | true =>
          obtain ⟨es, fe, hw1, er, sub1, hi1⟩ := ht rfl
          have R3' := R3.grow g3
          show wi1 σ3 H3 _
          refine hw1 F0 H0 F3 H3 σ3 R3' _ fun J1 A1 F4 H4 g4 src1 a4 => ?_
          have R4 := R3'.grow g4
          have R4w := R4.wipe vs1
          have gB := gA.trans g4
          have nD4 : F4 Dl = none := g4.n _ _ hD3 rfl nD
          have hD4 : H4 Dl = some (.lst acc) := g4.h _ _ hD3
          have ra4 := ra3.mono g4.f
          have RB := RA.grow g4
          have fr4 : ∀ (j : Nat) (y : Sl), (wipeS ρ1 vs1)[j]? = some y → y.own = true → (L2.wipe σ3 vs1)[j]? ≠ some (some (.ref Dl)) := fun j y h1 h2 h3 => by
            have q0 := (wipe_some h3)
            obtain ⟨z1, z2⟩ := wipeS_own vs1 h1 h2
            obtain ⟨nj, e1⟩ := tg.1 j y z2 h2
            exact fr j y e1 h2 ((k3 j nj).symm.trans q0.1)
          refine ⟨fun k m H' => ∃ F' acc', m = es.length - k ∧ k ≤ es.length ∧ Gr F H F' H' ∧ RelS K F0 H0 F' H' (L2.wipe σ vs) (wipeS ρ vs) ∧ RelS K F0 H0 F' H' (L2.wipe σ3 vs1) (wipeS ρ1 vs1) ∧ Ex F4 F' ∧ F' Dl = none ∧ H' Dl = some (.lst acc') ∧ Reps K F' acc' ((ds.take i).flatMap f ++ (es.take k).filterMap fe),
            ⟨es.length, F4, acc, rfl, Nat.zero_le _, gB, RB, R4w, Ex.refl F4, nD4, hD4, by simpa using ra4⟩, ?_⟩
          rintro k m H5 ⟨F5, acc5, rfl, hk, g5, R5, R5w, ex5, hDF5, hDH5, ra5⟩
          have a5 := src1.keep _ _ a4 ex5
          by_cases hlt1 : k < es.length
          · refine .inr ⟨src1.go k F5 H5 hlt1 a5 R5w.ex, fun H' => ∃ F' acc', Gr F H F' H' ∧ RelS K F0 H0 F' H' (L2.wipe σ vs) (wipeS ρ vs) ∧ RelS K F0 H0 F' H' (L2.wipe σ3 vs1) (wipeS ρ1 vs1) ∧ Ex F4 F' ∧ F' Dl = none ∧ H' Dl = some (.lst acc') ∧ Reps K F' acc' ((ds.take i).flatMap f ++ (es.take (k + 1)).filterMap fe),
              fun H' ⟨F', acc', x1, x2, x3, x4, x5, x6, x7⟩ => ⟨es.length - (k + 1), by omega, F', acc', rfl, hlt1, x1, x2, x3, x4, x5, x6, x7⟩, fun x6 H6 y6 => ?_⟩
            obtain ⟨e, he⟩ : ∃ e, es[k]? = some e := ⟨es[k], List.getElem?_eq_getElem hlt1⟩
            obtain ⟨F6, g6, rx6⟩ := src1.yld k F5 H5 x6 H6 e he a5 R5w.ex y6
            obtain ⟨js, ρ2, b2, tg2, sub2, tv2, ht2, hf2⟩ := hi1 e (List.mem_of_getElem? he)
            refine tg2.2 F0 H0 F6 H6 _ x6 (R5w.grow g6) rx6 _ fun σ7 R7 l7 k7 => ⟨?_, ?_⟩
            · rw [wipe_same l7 k7 sub2, wipe_wipe]
            · refine tv2 F0 H0 F6 H6 σ7 R7 _ fun F7 H7 g7 => ?_
              have gC := (g5.trans g6).trans g7
              have RC := (R5.grow g6).grow g7
              have RCw := (R5w.grow g6).grow g7
              have nD7 : F7 Dl = none := g7.n _ _ (g6.h _ _ hDH5) rfl (g6.n _ _ hDH5 rfl hDF5)
              have hD7 := g7.h _ _ (g6.h _ _ hDH5)
              have ra7 := (ra5.mono g6.f).mono g7.f
              have ex7 := (ex5.trans g6.f).trans g7.f
              cases b2 with
              | false =>
                show ∃ F' acc', _
                refine ⟨F7, acc5, gC, RC, RCw, ex7, nD7, hD7, ?_⟩
                rw [filterMap_take he, hf2 rfl]
                simpa using ra7
              | true =>
                obtain ⟨yv, ey, hy⟩ := ht2 rfl
                show te σ7 H7 _
                refine hy F0 H0 F7 H7 σ7 (R7.grow g7) _ fun v8 F8 H8 g8 r8 => ?_
                have nD8 : F8 Dl = none := g8.n _ _ hD7 rfl nD7
                have hD8 : H8 Dl = some (.lst acc5) := g8.h _ _ hD7
                have ra8 := ra7.mono g8.f
                refine ⟨acc5, hD8, ?_, F8, acc5 ++ [v8], (gC.trans g8).side hD0 nD8, (RC.grow g8).side hD00 nD8 fr, (RCw.grow g8).side hD00 nD8 fr4, ex7.trans g8.f, nD8, upd_same, ?_⟩
                · rw [ra8.length, sizeLine_eq, List.length_append]
                  have l1 := len_flatMap_take f ds (i + 1)
                  rw [flatMap_take hd, List.length_append, er] at l1
                  have l2 : ((es.take (k + 1)).filterMap fe).length ≤ (es.filterMap fe).length := by
                    conv => rhs; rw [← List.take_append_drop (k + 1) es]
                    rw [List.filterMap_append, List.length_append]; omega
                  rw [filterMap_take he, List.length_append] at l2
                  omega
                · rw [filterMap_take he, ey, ← List.append_assoc]
                  exact ra8.append (.cons r8 .nil)
          · have ek : k = es.length := by omega
            subst ek
            refine .inl ⟨src1.stop _ _ a5 R5w.ex, F5, acc5, g5, R5, (ex3.trans g4.f).trans ex5, hDF5, hDH5, ?_⟩
            rw [flatMap_take hd, er]
            rw [List.take_length] at ra5
            exact ra5
    · have e : i = ds.length := by omega
      subst e
      refine .inl ⟨src.stop _ _ a' R'.ex, q Dl acc F' H' g' hD0 hDF hDH ?_⟩
      rw [List.take_length] at ra
      exact ra
end
end DL
set_option Elab.async false
set_option linter.all false
set_option maxRecDepth 100000
set_option maxHeartbeats 1000000
/-! Small rules, folds of loops, isinstance. -/
namespace DL
open PySem PySem.Spec PyProof.Rows L2
section
variable {K : PySem.W.Frag} {W : WX} {ρ ρ' ρ1 : List Sl} {te ta tb tl : TE} {d x y z : D} {xs ys ds zs : List D} {t u : TS} {i j : Int} {n : Nat} {o : Out} {tt : TT}
theorem RelS.wipeK {F0 H0 F H : Hp} {σ : L2.St} {ρ : List Sl} (R : RelS K F0 H0 F H σ ρ) : ∀ is : List Nat, RelS K F0 H0 F H σ (wipeS ρ is)
  | [] => R
  | i :: is => by
    have R1 := R.wipeK is
    unfold wipeS
    cases e : σ[i]? with
    | none =>
      rw [List.set_eq_of_length_le (by rw [← R1.len]; exact List.getElem?_eq_none_iff.mp e)]
      exact R1
    | some v =>
      have R2 := R1.forget i v
      rw [set_same e] at R2
      exact R2
/-- slots forgotten at the end -/
theorem sv_wipe (is : List Nat) (h : SvD K W t ρ (.nx ρ1)) : SvD K W t ρ (.nx (wipeS ρ1 is)) := fun E F0 H0 F H σ R p =>
  h E F0 H0 F H σ R fun σ' F' H' e R' => p σ' F' H' e (R'.wipeK is)
theorem sv_nx (h : SvD K W t ρ (.nx ρ1)) (is : List Nat) (e : wipeS ρ1 is = ρ') : SvD K W t ρ (.nx ρ') := e ▸ sv_wipe is h
/-- a loop that goes through, its state a fold -/
theorem run_fold {S : Type} {step : D → List Sl → Out → Prop} (enc : S → List Sl) (f : S → D → S) (I : S → Prop) : ∀ (ds : List D) (s : S), (∀ s d, d ∈ ds → I s → step d (enc s) (.nx (enc (f s d))) ∧ I (f s d)) → I s → Run step ds (enc s) (.nx (enc (ds.foldl f s)))
  | [], s, _, _ => .nil
  | d :: ds, s, h, hI => .go (h s d List.mem_cons_self hI).1 (run_fold enc f I ds (f s d) (fun s' d' hd hs => h s' d' (List.mem_cons_of_mem _ hd) hs) (h s d List.mem_cons_self hI).2)
/-- .. by the turn's number -/
theorem run_steps {step : D → List Sl → Out → Prop} (R : Nat → List Sl) (ds : List D) : ∀ (k : Nat), k ≤ ds.length → (∀ i d, k ≤ i → ds[i]? = some d → step d (R i) (.nx (R (i + 1)))) → Run step (ds.drop k) (R k) (.nx (R ds.length)) := by
  intro k hk h
  generalize hm : ds.length - k = m
  induction m generalizing k with
  | zero =>
    have e : k = ds.length := by omega
    subst e
    rw [List.drop_length]; exact .nil
  | succ m ih =>
    have hlt : k < ds.length := by omega
    rw [List.drop_eq_getElem_cons hlt]
    exact .go (h k _ (Nat.le_refl _) (List.getElem?_eq_getElem hlt)) (ih (k + 1) hlt (fun i d hi hd => h i d (by omega) hd) (by omega))
theorem run_all {step : D → List Sl → Out → Prop} (R : Nat → List Sl) (ds : List D) (h : ∀ i d, ds[i]? = some d → step d (R i) (.nx (R (i + 1)))) : Run step ds (R 0) (.nx (R ds.length)) := by
  have := run_steps R ds 0 (Nat.zero_le _) fun i d _ hd => h i d hd
  rwa [List.drop_zero] at this
/-- the built-in class is known -/
def D.tyOk : D → Bool
  | .non => true | .bl _ => true | .int _ => true | .str _ => true | .lst _ => true | .tup _ => true | .tupZ _ => true | .dk _ _ => true
  | _ => false
theorem tyx_of {F H : Hp} {v : V} (e : Ex F H) (r : Rep K F v d) (h : d.tyOk = true) : TyX K H v (.type d.tyN) := by
  cases r with
  | non => exact .base .non
  | bl b => exact .base (.bl b)
  | int i => exact .base (.int i)
  | str z => exact .base (.str z)
  | ty n => cases h
  | cls C => cases h
  | lst ha _ => exact .base (.lst (e _ _ ha))
  | scr _ => cases h
  | tup ha _ => exact .base (.tup (e _ _ ha))
  | tupZ ha _ _ => exact .fTuple (e _ _ ha)
  | dk ha hs _ _ =>
    have h1 := e _ _ ha
    unfold str1 at hs
    split at hs
    · exact .fDict h1
    · cases hs
    · subst hs; exact .base (.dK h1)
  | dt _ _ _ _ => cases h
  | ins _ _ _ => cases h
theorem ev_isi {nm : String} {b : Bool} (h : EvD K ta ρ d) (hd : d.tyOk = true) (hb : kitB d.tyN nm = some b) : EvD K (tCB (rIsi K) (tCons ta (tCons (tC (.ty nm)) tNil))) ρ (.bl b) := fun F0 H0 F H σ R Q q =>
  h F0 H0 F H σ R _ fun v F1 H1 g1 r1 => ⟨v, .ty nm, .type d.tyN, .type nm, b, rfl, .ty nm, tyx_of g1.s r1 hd, kit_ty hb, q _ F1 H1 g1 (.bl b)⟩
theorem mul_ok {i j : Int} (a b : Nat) (ha : i.natAbs < 2 ^ a) (hb : j.natAbs < 2 ^ b) (h : a + b ≤ 134217728) : CMulX i j := mulx_ok ha hb h
/-- bounds by numbers below 2 ^ 64 -/
theorem mul_s {i j : Int} (h1 : -18446744073709551616 < i ∧ i < 18446744073709551616) (h2 : -18446744073709551616 < j ∧ j < 18446744073709551616) : CMulX i j := mulx_ok (a := 64) (b := 64) (by omega) (by omega) (by omega)
end
/-! ### what isinstance answers -/
def isInt : D → Bool
  | .int _ => true
  | _ => false
def isBl : D → Bool
  | .bl _ => true
  | _ => false
def isTup : D → Bool
  | .tup _ => true
  | .tupZ _ => true
  | _ => false
def isLst : D → Bool
  | .lst _ => true
  | _ => false
def isStr : D → Bool
  | .str _ => true
  | _ => false
theorem kit_int {d : D} (h : d.tyOk = true) : kitB d.tyN "int" = some (isInt d || isBl d) := by
  cases d with
  | non  => exact (by decide +kernel : kitB "NoneType" "int" = some false)
  | bl _ => exact (by decide +kernel : kitB "bool" "int" = some true)
  | int _ => exact (by decide +kernel : kitB "int" "int" = some true)
  | str _ => exact (by decide +kernel : kitB "str" "int" = some false)
  | lst _ => exact (by decide +kernel : kitB "list" "int" = some false)
  | tup _ => exact (by decide +kernel : kitB "tuple" "int" = some false)
  | tupZ _ => exact (by decide +kernel : kitB "tuple" "int" = some false)
  | dk _ _ => exact (by decide +kernel : kitB "dict" "int" = some false)
  | dt _ _ => cases h
  | ins _ _ _ => cases h
  | scr _ => cases h
  | ty _ => cases h
  | cls _ => cases h
theorem kit_bool {d : D} (h : d.tyOk = true) : kitB d.tyN "bool" = some (isBl d) := by
  cases d with
  | non  => exact (by decide +kernel : kitB "NoneType" "bool" = some false)
  | bl _ => exact (by decide +kernel : kitB "bool" "bool" = some true)
  | int _ => exact (by decide +kernel : kitB "int" "bool" = some false)
  | str _ => exact (by decide +kernel : kitB "str" "bool" = some false)
  | lst _ => exact (by decide +kernel : kitB "list" "bool" = some false)
  | tup _ => exact (by decide +kernel : kitB "tuple" "bool" = some false)
  | tupZ _ => exact (by decide +kernel : kitB "tuple" "bool" = some false)
  | dk _ _ => exact (by decide +kernel : kitB "dict" "bool" = some false)
  | dt _ _ => cases h
  | ins _ _ _ => cases h
  | scr _ => cases h
  | ty _ => cases h
  | cls _ => cases h
theorem kit_tuple {d : D} (h : d.tyOk = true) : kitB d.tyN "tuple" = some (isTup d) := by
  cases d with
  | non  => exact (by decide +kernel : kitB "NoneType" "tuple" = some false)
  | bl _ => exact (by decide +kernel : kitB "bool" "tuple" = some false)
  | int _ => exact (by decide +kernel : kitB "int" "tuple" = some false)
  | str _ => exact (by decide +kernel : kitB "str" "tuple" = some false)
  | lst _ => exact (by decide +kernel : kitB "list" "tuple" = some false)
  | tup _ => exact (by decide +kernel : kitB "tuple" "tuple" = some true)
  | tupZ _ => exact (by decide +kernel : kitB "tuple" "tuple" = some true)
  | dk _ _ => exact (by decide +kernel : kitB "dict" "tuple" = some false)
  | dt _ _ => cases h
  | ins _ _ _ => cases h
  | scr _ => cases h
  | ty _ => cases h
  | cls _ => cases h
theorem kit_list {d : D} (h : d.tyOk = true) : kitB d.tyN "list" = some (isLst d) := by
  cases d with
  | non  => exact (by decide +kernel : kitB "NoneType" "list" = some false)
  | bl _ => exact (by decide +kernel : kitB "bool" "list" = some false)
  | int _ => exact (by decide +kernel : kitB "int" "list" = some false)
  | str _ => exact (by decide +kernel : kitB "str" "list" = some false)
  | lst _ => exact (by decide +kernel : kitB "list" "list" = some true)
  | tup _ => exact (by decide +kernel : kitB "tuple" "list" = some false)
  | tupZ _ => exact (by decide +kernel : kitB "tuple" "list" = some false)
  | dk _ _ => exact (by decide +kernel : kitB "dict" "list" = some false)
  | dt _ _ => cases h
  | ins _ _ _ => cases h
  | scr _ => cases h
  | ty _ => cases h
  | cls _ => cases h
theorem kit_str {d : D} (h : d.tyOk = true) : kitB d.tyN "str" = some (isStr d) := by
  cases d with
  | non  => exact (by decide +kernel : kitB "NoneType" "str" = some false)
  | bl _ => exact (by decide +kernel : kitB "bool" "str" = some false)
  | int _ => exact (by decide +kernel : kitB "int" "str" = some false)
  | str _ => exact (by decide +kernel : kitB "str" "str" = some true)
  | lst _ => exact (by decide +kernel : kitB "list" "str" = some false)
  | tup _ => exact (by decide +kernel : kitB "tuple" "str" = some false)
  | tupZ _ => exact (by decide +kernel : kitB "tuple" "str" = some false)
  | dk _ _ => exact (by decide +kernel : kitB "dict" "str" = some false)
  | dt _ _ => cases h
  | ins _ _ _ => cases h
  | scr _ => cases h
  | ty _ => cases h
  | cls _ => cases h
end DL
set_option Elab.async false
set_option linter.all false
set_option maxRecDepth 100000
set_option maxHeartbeats 1000000
/-! Order of data, list of a dict, join, max, a display with a tuple key, targets over lists. -/
namespace DL
open PySem PySem.Spec PyProof.Rows L2
section
variable {X : Cx}
/-- a sequence's items into targets -/
def gSeqA (K : PySem.W.Frag) (n : Nat) (t : TGs) : TG := fun v σ H Q => gTup K n t v σ H Q ∨ gLst K n t v σ H Q
theorem pg_seqA {es : List Expr} {k : Nat} {pos : Pos} {t : TGs} {n : Nat} (hc : X.calm = true) (h : PGs X es t)
    (hn : (assignEach es X.env).length = n := by rfl) (hst : (assignEach es X.env).findIdx? (·.1) = none := by rfl) : PG X (.Tuple es k pos) (gSeqA X.K n t) := by
  refine ⟨fun pins s σ H v u Q I r hw => ?_⟩
  rcases hw with hw | hw
  · exact (pg_tup hc h hn hst).run pins s σ H v u Q I r hw
  · exact (pg_lst hc h hn hst).run pins s σ H v u Q I r hw
/-- x >= y of plain data -/
def rGeD (K : PySem.W.Frag) : R2 := fun x y H Q => ∃ dx dy, Dp K H x dx ∧ Dp K H y dy ∧ PySem.W.alike dx dy = true ∧ dx ≠ .none ∧ dx.depth ≤ 8 ∧ Q (.bl (!PySem.W.dataLt dx dy)) H
theorem op_geD (hu : X.A.units + 64 < cLine) : OpR X (compareOp .GtE) (rGeD X.K) := by
  intro pins s σ H x y v u Q I rx ry h
  obtain ⟨dx, dy, hx, hy, al, ne, dep, q⟩ := h
  obtain ⟨as, r1⟩ := Dp.reads I dx x v hx rx
  obtain ⟨bs, r2⟩ := Dp.reads I dy y u hy ry
  exact PySem.W.ge_data r1 r2 al ne (by omega) ⟨.bl _, H, I, rfl, q⟩
/-- list(x) of a sequence or a dict -/
def rLstDT : List V → Hp → VK → Prop := fun xs H Q => ∃ d kvs, xs = [V.ref d] ∧ Rd H d (.dT kvs) ∧ ∀ p bs, H p = none → IsKeys H kvs bs → Q (.ref p) (upd H p (.lst (bs.map V.ref)))
def rLstA (K : PySem.W.Frag) : List V → Hp → VK → Prop := fun xs H Q => rLstC K xs H Q ∨ (fun xs H Q => rListD xs H Q ∨ rLstDT xs H Q) xs H Q
theorem cr_lstA (hc : X.calm = true) : CallR X (.type "list") (rLstA X.K) := CallR.or call_list_of (CallR.or (call_list_dK hc) (call_list_dT hc))
/-- {k: v} with a tuple of ints and texts -/
def tDisp1T (tk tv : TE) : TE := fun σ H Q => ∀ p, H p = none → tk σ (upd H p (.dT [])) fun x H1 => tv σ H1 fun y H2 => ∃ (b : Addr) (k : List Key), x = .ref b ∧ H2 b = some (.tup (k.map kV)) ∧ H2 p = some (.dT []) ∧ Q (.ref p) (upd H2 p (.dT [(k, y)]))
theorem pe_disp1T {ke ve : Expr} {pos : Pos} {tk tv : TE} (hu : X.A.units + 1 < cLine) (hk : PE X ke tk) (hv : PE X ve tv) (hk1 : evalEachOpt [some ke] X.env = [some (eval ke X.env)] := by rfl) (hv1 : evalEach [ve] X.env = [eval ve X.env] := by rfl) :
    PE X (.Dict [some ke] [ve] pos) (tDisp1T tk tv) := by
  refine ⟨fun pins s σ H Q I q => ?_⟩
  have hn := I.hok.fresh (Nat.le_refl s.heap.objs.size)
  have I1 := I.laid (a := s.heap.objs.size) (o := .dT []) (h' := s.heap.push { cls := .type "dict", data := .dict #[] }) (t' := s.toks) (fun _ _ q => Heap.get?_push_of_some _ q) (Nat.le_refl _) (dt_empty s.heap I.big)
  have hsh : (evalEachOpt [some ke] X.env).zip ((evalEach [ve] X.env).map fun v => do let x ← v; standAt pos; pure x) = [(eval ke X.env, do let x ← eval ve X.env; standAt pos; pure x)].map fun p => (some p.1, p.2) := by rw [hk1, hv1]; rfl
  rw [arm_eval_Dict, hsh, dictDisplay_pairs _ (by simp) (by simp)]
  refine wpAny_bind (wpAny_standAt (wpAny_bind (wpAny_subDictH (knd := tupleKind (mixKind X.prog X.w)) (show (tupleKind (mixKind X.prog X.w)).room X.A from (by show X.A.units < cLine; omega)) (by simp) ?_)))
  refine evalPairs_cons (thn (hk.run pins _ σ _ _ I1 (q _ hn)) fun kv s2 ⟨x, H2, I2, rx, q2⟩ => wpAny_bind (thn (hv.run pins s2 σ H2 _ I2 q2) fun vv s3 ⟨y, H3, I3, ry, b, k, ex, hb, hp, q3⟩ => wpAny_bind (wpAny_standAt (wpAny_pure (evalPairs_nil ?_)))))
  subst ex
  cases (show kv = Value.ref b from rx)
  obtain ⟨z, hd, xs, rel, dd⟩ := dt_of I3.hok hp
  cases rel
  refine ⟨[(k, b, vv)], ⟨rfl, rfl, key_of I3.hok hb, trivial⟩, dd, fun h' tk' dd' hs => wpAny_pure ⟨.ref s.heap.objs.size, _, ?_, rfl, q3⟩⟩
  obtain ⟨o, es, ep, ho, h2, h3, h4, _, h5⟩ := dd'
  refine d_write I3 (by rw [hp]; exact True.intro) hs ⟨o, ho⟩ ⟨by simp [sizeLine_eq], hd, [(k, b, vv)], .cons ⟨rfl, ?_, ry⟩ .nil, o, es, ep, ho, h2, h3, h4, h5⟩
  rw [upd_ne (ne_of hb hp (fun z => nomatch z))]
  exact hb
end
section
variable {K : PySem.W.Frag} {W : WX} {ρ ρ' : List Sl} {te ta tb tl : TE} {d x y z : D} {xs ys ds zs : List D} {t : TA} {i j : Int} {n : Nat} {o : Out}
theorem tg_seqT {gs : TGs} {is : List Nat} (h : TgsD K gs is ds ρ ρ') (hn : ds.length = n) : TgD K (gSeqA K n gs) is (.tup ds) ρ ρ' := ⟨h.1, fun F0 H0 F H σ v R r Q q => .inl ((tg_tup h hn).2 F0 H0 F H σ v R r Q q)⟩
theorem tg_seqL {gs : TGs} {is : List Nat} (h : TgsD K gs is ds ρ ρ') (hn : ds.length = n) : TgD K (gSeqA K n gs) is (.lst ds) ρ ρ' := ⟨h.1, fun F0 H0 F H σ v R r Q q => by
  cases r with
  | lst h1 rs => exact .inr ⟨_, _, rfl, SqL.of (R.ex _ _ h1), by rw [rs.length]; exact hn, h.2 F0 H0 F H σ _ R rs Q q⟩⟩
theorem tv_geD (ha : EvD K ta ρ x) (hb : EvD K tb ρ y) (hx : x.pl = true) (hy : y.pl = true) (al : PySem.W.alike x.py y.py = true) (ne : x.py ≠ .none) (dep : x.py.depth ≤ 8) : TvD K (tTest (tOp (rGeD K) ta tb)) ρ (!PySem.W.dataLt x.py y.py) :=
  tv_test (ev_op ha hb fun F H e v u a b Q q => ⟨x.py, y.py, Dp.up e (a.dp hx), Dp.up e (b.dp hy), al, ne, dep, q _ F H (.refl e) (.bl _)⟩)
theorem evl_lstAL (h : EvSL K te ρ ds) : EvL K (tCB (rLstA K) (tCons te tNil)) ρ ds := evl_cbSL h fun F H e p vs s r Q q =>
  .inl ⟨p, vs, rfl, .inl s, fun l hl => q l vs F _ (.own e hl) hl (e.back hl) upd_same r⟩
theorem evl_lstAT (h : EvST K te ρ ds) : EvL K (tCB (rLstA K) (tCons te tNil)) ρ ds := fun F0 H0 F H σ R Q q =>
  h F0 H0 F H σ R _ fun p vs F1 H1 g1 s1 r1 => .inl ⟨p, vs, rfl, .inr s1, fun l hl => q l vs F1 _ (g1.trans (.own g1.s hl)) (g1.h.back hl) (g1.s.back hl) upd_same r1⟩
theorem reps_krKeys {F : Hp} : ∀ {ws : List (Key × V)} {kvs : List (Key × D)}, KR K F ws kvs → Reps K F (ws.map fun kv => kV kv.1) (kvs.map fun kv => kD kv.1)
  | _, _, .nil => .nil
  | _, _, .cons _ r => .cons (rep_key _) (reps_krKeys r)
theorem evl_lstDK {s : Nat} {kvs : List (Key × D)} (hx : ρ[s]? = some (.ok kvs)) : EvL K (tCB (rLstA K) (tCons (tVar s) tNil)) ρ (kvs.map fun kv => kD kv.1) := fun F0 H0 F H σ R Q q => by
  obtain ⟨p, h1, n0, nf, ws, h2, nd, rs⟩ := R.getOwn hx rfl
  exact ⟨_, h1, .inr (.inl ⟨p, ws, rfl, h2, fun l hl => q l _ F _ (.own R.ex hl) hl (R.ex.back hl) upd_same (reps_krKeys rs)⟩)⟩
/-- the key tuples become known -/
theorem keys_known {κ : Type} {F H : Hp} {ws : List (List Key × V)} (e : Ex F H) {f : κ → Addr} : ∀ {bs : List (κ × List Key)}, (∀ b ∈ bs, H (f b.1) = some (.tup (b.2.map kV))) → ∃ F', Gr F H F' H ∧ Reps K F' (bs.map fun b => .ref (f b.1)) (bs.map fun b => .tup (b.2.map kD))
  | [], _ => ⟨F, .refl e, .nil⟩
  | b :: bs, h => by
    obtain ⟨F1, g1, r1⟩ := keys_known e (ws := ws) (f := f) fun c hc => h c (List.mem_cons_of_mem _ hc)
    obtain ⟨F2, g2, h2⟩ := Gr.tup g1.s (h b List.mem_cons_self)
    exact ⟨F2, g1.trans g2, .cons (.tup h2 (reps_keys b.2)) (r1.mono g2.f)⟩
theorem isKeys_pairs {H : Hp} {ws : List (List Key × V)} {bs : List Addr} (h : IsKeys H ws bs) : ∃ ps : List (Addr × List Key), bs = ps.map (·.1) ∧ ws.map (·.1) = ps.map (·.2) ∧ ∀ p ∈ ps, H p.1 = some (.tup (p.2.map kV)) := by
  unfold IsKeys at h
  induction h with
  | nil => exact ⟨[], rfl, rfl, fun _ z => nomatch z⟩
  | @cons p b ps bs h t ih =>
    obtain ⟨qs, e1, e2, e3⟩ := ih
    refine ⟨(b, p.1) :: qs, by rw [e1]; rfl, by rw [List.map_cons, e2]; rfl, fun q hq => ?_⟩
    rcases List.mem_cons.mp hq with e | e
    · rw [e]; exact h
    · exact e3 q e
theorem evl_lstDT {kvs : List (List Key × D)} (h : EvDT K te ρ kvs) : EvL K (tCB (rLstA K) (tCons te tNil)) ρ (kvs.map fun kv => .tup (kv.1.map kD)) := fun F0 H0 F H σ R Q q =>
  h F0 H0 F H σ R _ fun a ws F1 H1 g1 s1 r1 => .inr (.inr ⟨a, ws, rfl, s1, fun p bs hp hk => by
    obtain ⟨ps, e1, e2, e3⟩ := isKeys_pairs hk
    obtain ⟨F2, g2, r2⟩ := keys_known (K := K) g1.s (ws := ws) (f := id) (bs := ps) e3
    have ek := r1.keys
    have e4 : (kvs.map fun kv => D.tup (kv.1.map kD)) = ps.map fun b => D.tup (b.2.map kD) := by
      have : (kvs.map (·.1)).map (fun k => D.tup (List.map kD k)) = (ps.map (·.2)).map (fun k => D.tup (List.map kD k)) := by rw [← ek, e2]
      rw [List.map_map, List.map_map] at this; exact this
    rw [e4] at q
    have g3 := g1.trans g2
    refine q p _ F2 _ (g3.trans (.own g2.s hp)) (g1.h.back hp) (g2.s.back hp) upd_same ?_
    rw [e1, List.map_map]
    exact r2⟩)
/-! ### sorted -/
/-- data in order -/
def sortD (ds : List D) : List D := ds.mergeSort (PySem.W.dataLe false D.py)
theorem reps_zip {F : Hp} : ∀ {vs : List V} {ds : List D}, Reps K F vs ds → ∃ cs : List (V × D), vs = cs.map (·.1) ∧ ds = cs.map (·.2) ∧ ∀ c ∈ cs, Rep K F c.1 c.2
  | _, _, .nil => ⟨[], rfl, rfl, fun _ z => nomatch z⟩
  | _, _, .cons (v := v) (d := d) h r => by
    obtain ⟨cs, e1, e2, e3⟩ := reps_zip r
    refine ⟨(v, d) :: cs, by rw [e1]; rfl, by rw [e2]; rfl, fun c hc => ?_⟩
    rcases List.mem_cons.mp hc with e | e
    · rw [e]; exact h
    · exact e3 c e
theorem reps_of {F : Hp} : ∀ {cs : List (V × D)}, (∀ c ∈ cs, Rep K F c.1 c.2) → Reps K F (cs.map (·.1)) (cs.map (·.2))
  | [], _ => .nil
  | c :: cs, h => .cons (h c List.mem_cons_self) (reps_of fun d hd => h d (List.mem_cons_of_mem _ hd))
theorem reps_sorted {F : Hp} {cs : List (V × D)} (h : ∀ c ∈ cs, Rep K F c.1 c.2) : Reps K F ((srtP (cs.map fun c => (c.1, c.2.py))).map (·.1)) (sortD (cs.map (·.2))) := by
  have e1 : (srtP (cs.map fun c => (c.1, c.2.py))) = (cs.mergeSort fun a b => PySem.W.dataLe false D.py a.2 b.2).map fun c => (c.1, c.2.py) := by
    rw [List.map_mergeSort (s := PySem.W.dataLe false (·.2))]
    intro a _ b _; rfl
  have e2 : sortD (cs.map (·.2)) = (cs.mergeSort fun a b => PySem.W.dataLe false D.py a.2 b.2).map (·.2) := by
    unfold sortD
    rw [List.map_mergeSort (s := PySem.W.dataLe false D.py)]
    intro a _ b _; rfl
  rw [e1, e2, List.map_map]
  exact reps_of fun c hc => h c ((List.mergeSort_perm _ _).mem_iff.mp hc)
theorem pys_map : ∀ ds : List D, D.pys ds = ds.map D.py
  | [] => rfl
  | d :: ds => by rw [D.pys, pys_map ds]; rfl
theorem pls_mem : ∀ {ds : List D}, D.pls ds = true → ∀ d ∈ ds, d.pl = true
  | d :: ds, h, e, he => by
    have p := Bool.and_eq_true_iff.mp h
    rcases List.mem_cons.mp he with z | z
    · rw [z]; exact p.1
    · exact pls_mem p.2 e z
theorem evl_sortL (h : EvSL K te ρ ds) (hp : D.pls ds = true) (so : SortOk (ds.map D.py)) : EvL K (tCB (rSortA K) (tCons te tNil)) ρ (sortD ds) := evl_cbSL h fun F H e p vs s r Q q => by
  obtain ⟨cs, e1, e2, e3⟩ := reps_zip r
  subst e1; subst e2
  refine ⟨p, cs.map fun c => (c.1, c.2.py), rfl, by rw [List.map_map]; exact s, fun b hb => ?_, by rw [List.map_map]; rw [List.map_map] at so; exact so, fun l hl => ?_⟩
  · obtain ⟨c, hc, rfl⟩ := List.mem_map.mp hb
    exact Dp.up e ((e3 c hc).dp (pls_mem hp _ (List.mem_map_of_mem hc)))
  · exact q l _ F _ (.own e hl) hl (e.back hl) upd_same (reps_sorted e3)
theorem py_kD (k : Key) : (kD k).py = keyPy k := by cases k <;> rfl
theorem py_kT (k : List Key) : (D.tup (k.map kD)).py = .tuple (k.map keyPy) := by
  show PyData.tuple (D.pys (k.map kD)) = _
  rw [pys_map, List.map_map]
  congr 1
  exact List.map_congr_left fun a _ => py_kD a
theorem evl_sortT {kvs : List (List Key × D)} (h : EvDT K te ρ kvs) (so : SortOk (kvs.map fun kv => PyData.tuple (kv.1.map keyPy))) : EvL K (tCB rSortT (tCons te tNil)) ρ (sortD (kvs.map fun kv => .tup (kv.1.map kD))) := fun F0 H0 F H σ R Q q =>
  h F0 H0 F H σ R _ fun a ws F1 H1 g1 s1 r1 => by
    have ek := r1.keys
    have e0 : (ws.map fun kv => PyData.tuple (kv.1.map keyPy)) = kvs.map fun kv => PyData.tuple (kv.1.map keyPy) := by
      have : (ws.map (·.1)).map (fun k => PyData.tuple (List.map keyPy k)) = (kvs.map (·.1)).map (fun k => PyData.tuple (List.map keyPy k)) := by rw [ek]
      rw [List.map_map, List.map_map] at this; exact this
    refine ⟨a, ws, rfl, s1, by rw [e0]; exact so, fun p bs hp hb hk => ?_⟩
    rw [e0] at hb
    have mk : ∀ bs : List (V × PyData), (∀ b ∈ bs, ∃ (q : Addr) (k : List Key), b.1 = V.ref q ∧ H1 q = some (.tup (k.map kV)) ∧ b.2 = PyData.tuple (k.map keyPy)) → ∃ ps : List (Addr × List Key), bs = ps.map (fun p => (V.ref p.1, PyData.tuple (p.2.map keyPy))) ∧ ∀ p ∈ ps, H1 p.1 = some (.tup (p.2.map kV)) := by
      intro bs
      induction bs with
      | nil => intro _; exact ⟨[], rfl, fun _ z => nomatch z⟩
      | cons b bs ih =>
        intro h
        obtain ⟨ps, e1, e2⟩ := ih fun c hc => h c (List.mem_cons_of_mem _ hc)
        obtain ⟨q, k, e3, e4, e5⟩ := h b List.mem_cons_self
        refine ⟨(q, k) :: ps, by rw [e1, List.map_cons, ← e3, ← e5], fun p hp => ?_⟩
        rcases List.mem_cons.mp hp with z | z
        · rw [z]; exact e4
        · exact e2 p z
    obtain ⟨ps, e1, e2⟩ := mk bs hk
    obtain ⟨F2, g2, r2⟩ := keys_known (K := K) g1.s (ws := ws) (f := id) (bs := ps) e2
    have inj : ∀ {k l : List Key}, k.map keyPy = l.map keyPy → k = l := fun {k l} h => by
      refine (List.map_inj_right (fun a b e => ?_)).mp h
      cases a <;> cases b <;> first | (injection e with e; rw [e]) | cases e
    have e4 : (kvs.map fun kv => D.tup (kv.1.map kD)) = ps.map fun b => D.tup (b.2.map kD) := by
      rw [e1, List.map_map] at hb
      have k1 : ps.map (·.2) = kvs.map (·.1) := by
        refine (List.map_inj_right (f := fun k : List Key => PyData.tuple (k.map keyPy)) (fun a b e => ?_)).mp (by rw [List.map_map, List.map_map]; exact hb)
        injection e with e
        exact inj e
      have : (kvs.map (·.1)).map (fun k => D.tup (List.map kD k)) = (ps.map (·.2)).map (fun k => D.tup (List.map kD k)) := by rw [k1]
      rw [List.map_map, List.map_map] at this; exact this
    have g3 := g1.trans g2
    refine q p _ F2 _ (g3.trans (.own g2.s hp)) (g1.h.back hp) (g2.s.back hp) upd_same ?_
    rw [e4, e1]
    have e5 : (ps.map fun p => (V.ref p.1, PyData.tuple (p.2.map keyPy))) = (ps.map fun p => (V.ref p.1, D.tup (p.2.map kD))).map fun c => (c.1, c.2.py) := by
      rw [List.map_map]
      refine List.map_congr_left fun a _ => ?_
      show _ = (V.ref a.1, (D.tup (a.2.map kD)).py)
      rw [py_kT]
    have e6 : (ps.map fun b => D.tup (b.2.map kD)) = (ps.map fun p => (V.ref p.1, D.tup (p.2.map kD))).map (·.2) := by rw [List.map_map]; rfl
    rw [e5, e6]
    refine reps_sorted fun c hc => ?_
    obtain ⟨p, hp, rfl⟩ := List.mem_map.mp hc
    exact (let rec go : ∀ {ps : List (Addr × List Key)}, Reps K F2 (ps.map fun b => V.ref (id b.1)) (ps.map fun b => D.tup (b.2.map kD)) → p ∈ ps → Rep K F2 (V.ref p.1) (D.tup (p.2.map kD))
      | [], _, z => nomatch z
      | a :: ps, .cons h r, z => by
        rcases List.mem_cons.mp z with e | e
        · rw [e]; exact h
        · exact go r e
      go r2 hp)
/-! ### join, max, a display -/
theorem ev_join {s : Str} {ss : List Str} (ha : EvD K ta ρ (.str s)) (hb : EvSL K tb ρ (ss.map D.str)) (hl : (ss.map (·.length)).sum + ss.length * s.length ≤ 16777216) :
    EvD K (tM1 (fun x xs H Q => ∃ a p, ∃ ys : List Str, x = .str a ∧ xs = [.ref p] ∧ (SqL K H p (ys.map V.str) ∨ SqT K H p (ys.map V.str)) ∧ (ys.map (·.length)).sum + ys.length * a.length ≤ 16777216 ∧ Q (.str (Txt.join a ys)) H) ta tb) ρ (.str (Txt.join s ss)) := fun F0 H0 F H σ R Q q =>
  ha F0 H0 F H σ R _ fun v F1 H1 g1 r1 => by
    cases r1
    refine ⟨⟨s, rfl⟩, hb F0 H0 F1 H1 σ (R.grow g1) _ fun p vs F2 H2 g2 s2 r2 => ?_⟩
    have e := r2.strs_inv
    subst e
    exact ⟨s, p, ss, rfl, rfl, .inl s2, hl, q _ F2 H2 (g1.trans g2) (.str _)⟩
theorem ev_maxL {ns : List Int} {m : Int} (h : EvSL K te ρ (ns.map D.int)) (hm : m ∈ ns) (hy : ∀ y ∈ ns, y ≤ m) : EvD K (tCB (rMax K) (tCons te tNil)) ρ (.int m) := ev_cbSL h fun F H e p vs s r Q q => by
  have e1 := r.ints_inv
  subst e1
  refine ⟨p, ns, rfl, s, List.length_pos_of_mem hm, fun m' h1 h2 => ?_⟩
  have a := hy m' h1
  have b := h2 m hm
  have : m' = m := by omega
  subst this
  exact q _ F H (.refl e) (.int _)
theorem sv_asgDisp1T {s : Nat} {k : List Key} (hk : EvD K ta (ρ) (.tup (k.map kD))) (hv : EvD K tb ρ d) : SvD K W (tAsg (tDisp1T ta tb) (gName s)) ρ (.nx (ρ.set s (.ot [(k, d)]))) := fun E F0 H0 F H σ R P => fun p hp => by
  have g0 : Gr F H F (upd H p (.dT [])) := .own R.ex hp
  have fp : F p = none := R.ex.back hp
  refine hk F0 H0 F _ σ (R.grow g0) _ fun x F1 H1 g1 r1 => hv F0 H0 F1 H1 σ (R.grow (g0.trans g1)) _ fun y F2 H2 g2 r2 => ?_
  obtain ⟨b, rfl, hb⟩ := rep_kT r1
  have gA := (g0.trans g1).trans g2
  have h2 : H2 p = some (.dT []) := (g1.trans g2).h _ _ upd_same
  have f2 : F2 p = none := (g1.trans g2).n p _ upd_same rfl fp
  have hp0 : H0 p = none := R.gr.h.back hp
  have RA := R.grow gA
  refine ⟨b, k, rfl, gA.s _ _ (g2.f _ _ hb), h2, ?_⟩
  refine P _ F2 _ gA.f ((RA.side hp0 f2 fun j y h3 h4 h5 => ?_).setOwn s rfl ⟨hp0, f2, [(k, y)], upd_same, by simp, .cons r2 .nil⟩ fun j y h3 h4 _ h5 => ?_)
  · exact (R.fresh hp j y h3 h4) h5
  · exact (R.fresh hp j y h3 h4) h5
end
end DL
namespace DL
open PySem L2
/-- sep.join(xs) -/
abbrev tJoin (K : PySem.W.Frag) (to te : TE) : TE := tM1 (fun x xs H Q => ∃ a p, ∃ ys : List Str, x = .str a ∧ xs = [.ref p] ∧ (SqL K H p (ys.map V.str) ∨ SqT K H p (ys.map V.str)) ∧ (ys.map (·.length)).sum + ys.length * a.length ≤ 16777216 ∧ Q (.str (Txt.join a ys)) H) to te
end DL
set_option Elab.async false
set_option linter.all false
set_option maxRecDepth 100000
set_option maxHeartbeats 2000000
/-! Sets of texts that are made by a comprehension and sorted. -/
namespace DL
open PySem PySem.Spec PyProof.Rows L2 PySem.Froz
/-- the set at a holds the texts l; its table rises and can be walked -/
structure STx (P : Program) (w : World) (a : Addr) (l : List Str) (h : Heap) : Prop where
  ob : ∃ D : SD, h.get? a = some (sObj "set" D) ∧ TxOk P w D l ∧ Ris D.2.2.place.toList ∧ (w.params.followText "set-order" = true ∨ D.2.2.led = true)
  nd : l.Nodup
  sz : l.length < scanBound
section
variable {P : Program} {w : World} {A : Around} {E : Value → Shared → Prop} {s : Shared} {a : Addr} {l : List Str}
theorem STx.keep {h h' : Heap} (R : STx P w a l h) (k : ∀ o, h.get? a = some o → h'.get? a = some o) : STx P w a l h' := by
  obtain ⟨⟨D, h1, h2⟩, nd, z⟩ := R
  exact ⟨⟨D, k _ h1, h2⟩, nd, z⟩
theorem ris_tail {ep : Nat} {es1 : Array (Int × Value)} {t2 : SetTable} {b : Bool} (h : Ris t2.place.toList) : Ris (tailTx ep es1 t2 b).2.2.place.toList := by
  unfold tailTx
  split
  · exact relayAll_ris _ _ _
  · exact h
theorem led_tail {ep : Nat} {es1 : Array (Int × Value)} {t2 : SetTable} {b : Bool} : (tailTx ep es1 t2 b).2.2.led = t2.led := by
  unfold tailTx
  split
  · exact relayAll_led _ _ _
  · rfl
theorem ris_add {h : Int} {v : Value} {D : SD} (r : Ris D.2.2.place.toList) : Ris (addTx h v D).2.2.place.toList := by
  unfold addTx
  refine ris_tail ?_
  have q := layNew_ris D.2.2 D.1 h v r
  split <;> exact q
theorem led_add {h : Int} {v : Value} {D : SD} : (addTx h v D).2.2.led = D.2.2.led := by
  unfold addTx
  rw [led_tail]
  have q := layNew_led D.2.2 D.1 h v
  split <;> exact q
/-- a text that is there already -/
theorem there_x {D : SD} {k : Str} {u : Tok} {Q : Bool → Shared → Prop} (ho : s.heap.get? a = some (sObj "set" D)) (F : TxOk P w D l) (hk : k ∈ l) (hb : l.length < scanBound) (h : Q false s) : wpAny (model P w) A (setAddHashed a (.str k u) (hashStr w k)) Q E s := by
  obtain ⟨els, ep, tb⟩ := D
  have hel : ElemsOf (strKind P w) els.toList := F.el
  have hb0 : els.size < scanBound := by have := F.sz; simp only at this; omega
  have hkey : (strKind P w).is k (.str k u) = true := is_str k u
  unfold setAddHashed setAddHashedIn
  refine wpAny_holding (wpAny_bind (wpAny_setState_of ho rfl F.fit ?_))
  dsimp only
  rw [byScan_of rfl hb0 hel]
  simp only [↓reduceIte]
  unfold setAddByScan
  refine wpAny_bind (wpAny_bind (wpAny_rule (wpAny_bind (wpAny_setScan_of (knd := strKind P w) (k := k) hkey ho rfl F.fit hel ?_))))
  cases hfi : List.findIdx? (fun e => (strKind P w).is k e.2) els.toList with
  | some j => exact wpAny_pure (wpAny_pure h)
  | none =>
    obtain ⟨e, he, q⟩ := (F.mem k).mp hk
    have c := List.findIdx?_eq_none_iff.mp hfi e he
    rw [q] at c; cases c
theorem stx_add {k : Str} {u : Tok} {Q : Value → Shared → Prop} (R : STx P w a l s.heap) (room : l.length + 1 < scanBound)
    (hQ : ∀ h', Heap.SameBut a s.heap h' → STx P w a (if k ∈ l then l else k :: l) h' → Q .none { s with heap := h', toks := s.toks + 1 }) : wpAny (model P w) A (call (.builtin "set.add") [.ref a, .str k u]) Q E s := by
  have R0 := R
  obtain ⟨⟨D, ho, F, hr, hl⟩, nd, hz⟩ := R
  refine wpAny_call_entry PySem.F.slot_set_add ⟨_, ho, rfl⟩ PySem.F.entry_set_add ?_ (PySem.F.args_set_add_2 _ _)
  unfold Builtin.«set.add» Builtin.Frozenset.oneOther
  simp only [List.isEmpty_nil, bind_assoc]
  unfold Builtin.Frozenset.addrOf setAdd
  refine wpAny_bind (wpAny_pure ?_)
  try dsimp only
  refine wpAny_bind (wpAny_pure ?_)
  try dsimp only
  refine wpAny_bind (wpAny_holding (wpAny_bind ((strKind P w).pyHash (is_str k u) ?_)))
  by_cases hk : k ∈ l
  · rw [if_pos hk] at hQ
    refine there_x (s := { s with toks := s.toks + 1 }) ho F hk hz ?_
    show wpAny _ _ (ret Value.none) _ _ _
    exact wpAny_pure ⟨_, rfl, hQ s.heap (Heap.SameBut.refl a s.heap) R0⟩
  · rw [if_neg hk] at hQ
    refine add_x (s := { s with toks := s.toks + 1 }) ho F hk room ?_
    show wpAny _ _ (ret Value.none) _ _ _
    refine wpAny_pure ⟨_, rfl, hQ _ (Heap.SameBut.update s.heap a _) ⟨⟨_, get_upd _ ho rfl, add_ok u F, ris_add hr, hl.imp id fun z => by rw [led_add]; exact z⟩, List.nodup_cons.mpr ⟨hk, nd⟩, by rw [List.length_cons]; exact room⟩⟩
theorem stx_new (w : World) (h : Heap) : STx P w h.objs.size [] (h.push { cls := .type "set", dict := none, data := .set #[] 0 (.fresh 0 0 (!w.params.followText "set-order")) }) :=
  ⟨⟨(#[], 0, .fresh 0 0 (!w.params.followText "set-order")), Heap.get?_push_size _ rfl, .nil rfl, List.Pairwise.nil, by
    show _ ∨ (!w.params.followText "set-order") = true
    cases w.params.followText "set-order"
    · exact .inr rfl
    · exact .inl rfl⟩, List.nodup_nil, by decide⟩
end
/-- .. as a tracked thing -/
def SetTO (P : Program) (w : World) (a : Addr) (l : List Str) : HO := .ext fun h => STx P w a l h
section
variable {X : Cx} {pins : List (Addr × Obj)} {σ : L2.St} {H : Hp} {s : Shared}
theorem stO_ok {P : Program} {w : World} {h : Heap} {a : Addr} {l : List Str} (R : STx P w a l h) : ObjOk P w H h a (SetTO P w a l) := by
  have ⟨⟨D, h1, _⟩, _, _⟩ := R
  exact ⟨R, ⟨_, h1⟩, fun _ _ p k => p.keep k⟩
theorem stO_at {a : Addr} {l : List Str} (I : Inv X pins σ H s) (ha : H a = some (SetTO X.prog X.w a l)) : STx X.prog X.w a l s.heap := (I.hok a _ ha).1
theorem stO_add {E : Value → Shared → Prop} {D : Addr} {l : List Str} {k : Str} {u : Tok} {Q : Value → Shared → Prop} (I : Inv X pins σ H s) (hD : H D = some (SetTO X.prog X.w D l)) (room : l.length + 1 < scanBound)
    (h : ∀ s', Inv X pins σ (upd H D (SetTO X.prog X.w D (if k ∈ l then l else k :: l))) s' → Q .none s') : wpAny (model X.prog X.w) X.A (call (.builtin "set.add") [.ref D, .str k u]) Q E s :=
  stx_add (stO_at I hD) room fun h' sb new => by
    have ⟨⟨D', h1, _⟩, _, _⟩ := new
    exact h _ (I.write (e := D) (t' := s.toks + 1) (by rw [hD]; trivial) (.inl rfl) (fun b u hb hu => (sb.2 b hb).trans hu) ⟨_, h1⟩ (stO_ok new))
/-- {elt for target in iter}, elt a text -/
def tScT (P : Program) (w : World) (wi : TI) (g : TG) (te : TE) (vs : List Nat) : TE := fun σ H Q => wi σ H fun J H1 => ∀ D, H1 D = none → ∃ Z : Nat → Nat → Hp → Prop, (∃ m, Z 0 m (upd H1 D (SetTO P w D []))) ∧ ∀ i m H, Z i m H →
  (J.stop i H ∧ Q (.ref D) H) ∨ (J.go i H ∧ ∃ Nx : Hp → Prop, (∀ H', Nx H' → ∃ m', m' < m ∧ Z (i + 1) m' H') ∧ ∀ x H', J.yld i H x H' → g x (wipe σ vs) H' fun σ2 H2 => wipe σ2 vs = wipe σ vs ∧
    te σ2 H2 fun y H4 => ∃ (k : Str) (l : List Str), y = .str k ∧ H4 D = some (SetTO P w D l) ∧ l.length + 1 < scanBound ∧ Nx (upd H4 D (SetTO P w D (if k ∈ l then l else k :: l))))
theorem pe_scT {elt tg iter : Expr} {scope : Scope} {own : List (PySem.Str × Nat)} {pos : Pos} {wi : TI} {g : TG} {te : TE} (hc : X.calm = true) (hN : X.N.Nodup) (hi : PI X tg iter wi) (ok : BlkOk X.N X.env.scope scope own)
    (hg : ∀ (s : Shared) (H : Hp) (C : Addr) (cl : List (PySem.Str × Addr)) (fp : List Addr), PG (X.blk s H scope (compEnvC scope cl C X.env) fp) tg g)
    (he : ∀ (s : Shared) (H : Hp) (C : Addr) (cl : List (PySem.Str × Addr)) (fp : List Addr), PE (X.blk s H scope (compEnvC scope cl C X.env) fp) elt te) (hs : ∀ x, foldedSetIterable iter X.env x = pure x := by intro _; rfl) :
    PE X (.SetComp elt [⟨tg, iter, [], 0⟩] scope pos) (tScT X.prog X.w wi g te (own.map (·.2))) := by
  refine ⟨fun pins s σ H Q I h => ?_⟩
  rw [PpSet.eval_SetComp]
  have free : ∀ y ∈ scope.names, y.2 = .free → ∃ c, X.env.cells.lookup y.1 = some c := fun y hy e => (ok.free y hy e).elim (fun k => I.ok.has _ (.inl k)) fun k => I.ok.has _ (.inr k)
  refine wpAny_comprehension_free (use := none) rfl hs (closure_ok free) ok.kind (fun y hy e => by rw [ok.uniq y hy, e]) (thn (hi.run pins s σ H _ I h) fun xv s1 hx => thn hx fun itv s2 h2 => ?_)
  obtain ⟨it, fp, tn, J, H2, rfl, I2, T, st2, f2, q⟩ := h2
  refine PpSet.newSet_ok (newEnv_comp ?_)
  obtain ⟨D, hD⟩ : ∃ D, D = s2.heap.objs.size := ⟨_, rfl⟩
  rw [← hD]
  have free2 : H2 D = none := I2.hok.fresh (Nat.le_of_eq hD.symm)
  obtain ⟨Z, ⟨m0, z0⟩, turn⟩ := q D free2
  obtain ⟨s3, hs3⟩ : ∃ s3 : Shared, s3 = { s2 with heap := s2.heap.push { cls := .type "set", dict := none, data := .set #[] 0 (.fresh 0 0 (!X.w.params.followText "set-order")) } } := ⟨_, rfl⟩
  have e3 : s3.heap = s2.heap.push { cls := .type "set", dict := none, data := .set #[] 0 (.fresh 0 0 (!X.w.params.followText "set-order")) } := by rw [hs3]
  have I3 : Inv X pins σ (upd H2 D (SetTO X.prog X.w D [])) s3 := by
    rw [hs3]
    refine I2.laid (t' := s2.toks) (fun b o e => Heap.get?_push_of_some _ e) (Nat.le_of_eq hD.symm) ?_
    rw [hD]
    exact stO_ok (stx_new X.w s2.heap)
  have small : ∀ b ∈ fp, b < s2.heap.objs.size := fun b hb => (T.obj _ _ st2 b hb).elim fun o e => Heap.lt_size e.1
  have f3 : ∀ b ∈ fp, FpOk X pins (upd H2 D (SetTO X.prog X.w D [])) b ∧ b < s3.heap.objs.size := fun b hb => by
    have lt := small b hb
    exact ⟨⟨by rw [upd_ne (by rw [hD]; exact Nat.ne_of_lt lt)]; exact (f2 b hb).1, (f2 b hb).2⟩, by rw [e3, Heap.size_push]; exact Nat.lt_succ_of_lt lt⟩
  have st3 : tn 0 s3.heap := T.keep _ _ _ st2 fun b _ o e => by rw [e3]; exact Heap.get?_push_of_some _ e
  have I4 := block_start I3 ok hN f3
  rw [← hs3]
  have pg := hg s3 (upd H2 D (SetTO X.prog X.w D [])) s3.heap.objs.size (cellsFrom (s3.heap.objs.size + 1) scope.names (cloFrom X.env.cells scope.names [])) fp
  have pe := he s3 (upd H2 D (SetTO X.prog X.w D [])) s3.heap.objs.size (cellsFrom (s3.heap.objs.size + 1) scope.names (cloFrom X.env.cells scope.names [])) fp
  show codeAny _ _ (.compStart (.SetComp elt [⟨tg, iter, [], 0⟩] scope pos) 0 (.ref it) (.ref D) (compEnvC scope (cellsFrom (s3.heap.objs.size + 1) scope.names (cloFrom X.env.cells scope.names [])) s3.heap.objs.size X.env)) (compPost (model X.prog X.w) X.A X.xe none _ (.ref D) s3.heap.objs.size) { s3 with heap := pushCells (s3.heap.push { cls := .type "dict", data := .dict #[] }) scope.names }
  have nfp : ∀ b ∈ fp, (upd H2 D (SetTO X.prog X.w D [])) b = none := fun b hb => (f3 b hb).1.1
  obtain ⟨ce, hce⟩ : ∃ ce, ce = compEnvC scope (cellsFrom (s3.heap.objs.size + 1) scope.names (cloFrom X.env.cells scope.names [])) s3.heap.objs.size X.env := ⟨_, rfl⟩
  rw [← hce] at I4 pg pe ⊢
  have cL : ce.locals = s3.heap.objs.size := by rw [hce]; rfl
  obtain ⟨H3, hH3⟩ : ∃ H3, H3 = upd H2 D (SetTO X.prog X.w D []) := ⟨_, rfl⟩
  rw [← hH3] at I3 I4 pg pe z0 nfp f3
  obtain ⟨s4, hs4⟩ : ∃ s4 : Shared, s4 = { s3 with heap := pushCells (s3.heap.push { cls := .type "dict", data := .dict #[] }) scope.names } := ⟨_, rfl⟩
  rw [← hs4] at I4 ⊢
  have st4 : tn 0 s4.heap := T.keep _ _ _ st3 fun b _ o e => by rw [hs4]; exact pushCells_keeps _ _ _ _ (Heap.get?_push_of_some _ e)
  have stay : ∀ {σ' : L2.St} {H' : Hp} {s' : Shared}, Inv (X.blk s3 H3 scope ce fp) [] σ' H' s' → (∀ b ∈ fp, H' b = none) → ∀ b ∈ fp, FpOk (X.blk s3 H3 scope ce fp) [] H' b := fun {σ' H' s'} I' hn b hb =>
    ⟨hn b hb, (I'.ok.exf b hb).1, I'.ok.exfs b hb, .inl hb, fun x c e => (I'.ok.exf b hb).2 x c e, fun p hp => nomatch (show p ∈ ([] : List (Addr × Obj)) from hp)⟩
  refine PpSet.codeAny_compStart_set ?_ (T.self X.A 0 _ _ _ st4 ?_)
  all_goals
    refine PpSet.compLoopS_any (fun n s' => ∃ i H', Inv (X.blk s3 H3 scope ce fp) [] (wipe σ (own.map (·.2))) H' s' ∧ tn i s'.heap ∧ (∀ b ∈ fp, H' b = none) ∧ Z i n H') ?_ m0 ⟨0, H3, I4, st4, nfp, z0⟩
    rintro n s5 ⟨i, H5, I5, st5, n5, z5⟩
    rcases turn i n H5 z5 with ⟨stop, fin⟩ | ⟨go, Nx, hNx, step⟩
    · refine thnF (T.done (X.blk s3 H3 scope ce fp) rfl rfl rfl hc i [] s5 _ H5 (fun _ _ => False) I5 (stay I5 n5) st5 stop) fun r s6 ⟨hr, I6⟩ => ?_
      subst hr
      have I7 : Inv X pins σ H5 s6 := I3.call' (ch := fp) I6.os I6.base I6.hok I6.bare fun b hb => ⟨(f3 b hb).1.2.2.2.1, (f3 b hb).1.2.1, (f3 b hb).1.2.2.2.2.1, (f3 b hb).1.2.2.2.2.2⟩
      have nC : H5 s3.heap.objs.size = none := by
        have z : H5 ce.locals = none := I6.free
        rwa [cL] at z
      obtain ⟨m, hm, _⟩ := I6.loc
      have hm : s6.heap.Ns ce.locals m := hm
      rw [cL] at hm
      refine ⟨m, hm, fun h'' sb => ?_⟩
      obtain ⟨p0, p1, p2, p3, p4, p5⟩ := I3.fpOk (Nat.le_refl _) nC
      exact ⟨.ref D, H5, I7.turned (t' := s6.toks) (fun b o hb e => (sb.2 b hb).trans e) p0 p1 p3 p4 p5, rfl, fin⟩
    · refine thnF (T.item (X.blk s3 H3 scope ce fp) rfl rfl rfl hc i [] s5 _ H5 (fun _ _ => False) I5 (stay I5 n5) st5 go) fun r s6 ⟨u, hr, h6⟩ => ?_
      subst hr
      refine thnF h6 fun _ s7 ⟨x, H7, I7, r7, y7, st7, n7⟩ => ?_
      have J7 := I7.pinned (stay I7 n7) (T.obj _ _ st7)
      refine thnF (pg.run _ s7 _ H7 x u _ J7 r7 (step x H7 y7)) fun _ s8 ⟨σ8, H8, I8, w8, q8⟩ => ?_
      show wpAny _ _ (pure true) _ _ s8
      refine wpAny_pure ?_
      simp only [if_true]
      refine thnF (pe.run _ s8 σ8 H8 _ I8 q8) fun v s10 ⟨yv, H10, I10, r10, k, l, ey, hl, room, nx⟩ => ?_
      subst ey
      obtain ⟨tk, rfl⟩ := (show ∃ t, v = Value.str k t from r10)
      refine stO_add (X := X.blk s3 H3 scope ce fp) I10 hl room fun s11 I11 => ?_
      obtain ⟨m', hm, z'⟩ := hNx _ nx
      have pin : ∀ b ∈ fp, ∀ o, s7.heap.get? b = some o → s11.heap.get? b = some o ∧ (upd H10 D (SetTO X.prog X.w D (if k ∈ l then l else k :: l))) b = none := fun b hb o e =>
        have z := I11.pin (b, o) (List.mem_append_right _ (List.mem_append_right _ (mem_pinsAt hb e)))
        ⟨z.1, z.2.1⟩
      have hlen : (wipe σ (own.map (·.2))).length = σ8.length := by rw [← w8, wipe_length]
      refine ⟨m', hm, i + 1, _, (I11.unpinned (pins := [])).weak hlen (fun j v e => ?_), T.keep _ _ _ st7 fun b hb o e => (pin b hb o e).1, fun b hb => ?_, z'⟩
      · rw [← w8] at e
        exact (wipe_some e).1
      · obtain ⟨o, e, _⟩ := T.obj _ _ st7 b hb
        exact (pin b hb o e).2
end
end DL
set_option Elab.async false
set_option linter.all false
set_option maxRecDepth 100000
set_option maxHeartbeats 2000000
/-! sorted of a set of texts; a set comprehension over plain data. -/
namespace DL
open PySem PySem.Spec PyProof.Rows L2 PySem.Froz
def leX (a b : Str) : Bool := decide (a.cps.toList ≤ b.cps.toList)
def rSortTx (P : Program) (w : World) : List V → Hp → VK → Prop := fun xs H Q => ∃ (a : Addr) (l : List Str), xs = [.ref a] ∧ H a = some (SetTO P w a l) ∧ ∀ (p : Addr) (ss : List Str), H p = none → ss.Perm l → ss.Pairwise (fun a b => leX a b = true) → Q (.ref p) (upd H p (.lst (ss.map V.str)))
def txOf : Value → Str
  | .str x _ => x
  | _ => Str.empty
section
variable {X : Cx}
theorem perm_sub {α : Type} [DecidableEq α] : ∀ (l m : List α), l.Nodup → (∀ a ∈ l, a ∈ m) → m.length = l.length → m.Perm l
  | [], m, _, _, h => by rw [List.eq_nil_of_length_eq_zero h]
  | a :: l, m, nd, h, e => by
    obtain ⟨n1, n2⟩ := List.nodup_cons.mp nd
    have ha := h a List.mem_cons_self
    refine (List.perm_cons_erase ha).trans (List.Perm.cons a (perm_sub l (m.erase a) n2 (fun b hb => (List.mem_erase_of_ne (fun e => n1 (by rw [← e]; exact hb))).mpr (h b (List.mem_cons_of_mem _ hb))) ?_))
    rw [List.length_erase_of_mem ha, e, List.length_cons]; rfl
theorem leX_trans (a b c : Str) (h1 : leX a b = true) (h2 : leX b c = true) : leX a c = true := by
  unfold leX at *
  simp only [decide_eq_true_eq] at *
  exact List.le_trans h1 h2
theorem leX_total (a b : Str) : (leX a b || leX b a) = true := by
  unfold leX
  rw [Bool.or_eq_true, decide_eq_true_eq, decide_eq_true_eq]
  exact List.le_total _ _
theorem cr_sortTx (hc : X.calm = true) (hu : X.A.units + 64 < cLine) : CallR X (.builtin "sorted") (rSortTx X.prog X.w) := by
  intro pins s σ H xs us Q I r h
  obtain ⟨a, l, rfl, ha, q⟩ := h
  obtain ⟨u, rfl, rx⟩ := r.one
  cases rx
  obtain ⟨⟨D, ho, F, hr, hl⟩, nd, hz⟩ := stO_at I ha
  have hsz : D.1.size < scanBound := by have := F.sz; omega
  refine Calls.call_function_entry kind_sorted plain_sorted entry_sorted (args_sorted1 _) ?_
  unfold Builtin.«sorted»
  refine wpAny_bind (m := checkCount "sorted" 1 1 _) (wpAny_pure ?_)
  refine wpAny_bind (collect_set (A := X.A.in1) (I.ok.hd hc) ⟨_, ho, rfl, rfl⟩ F.fit hsz hr hl fun s1 vs k1 hs1 g1 o1 pm => ?_)
  have I1 : Inv X pins σ H s1 := I.call' (ch := []) o1 (Un.kept k1) (I.hok.kept k1) (by rw [g1]; exact I.bare) (fun _ z => nomatch z)
  -- the values are texts, as many as l, none twice
  have shape : ∀ v ∈ vs, ∃ k t, v = Value.str k t ∧ k ∈ l := fun v hv => by
    obtain ⟨e, he, rfl⟩ := List.mem_map.mp (pm.mem_iff.mp hv)
    obtain ⟨⟨k, hk, _⟩, _⟩ := F.el e he
    obtain ⟨t, ht⟩ := Value.isStrOf_shape (x := k) (v := e.2) hk
    exact ⟨k, t, ht, (F.mem k).mpr ⟨e, he, hk⟩⟩
  have hlen : vs.length = l.length := by rw [pm.length_eq, List.length_map, Array.length_toList, F.sz]
  have sub : ∀ k ∈ l, k ∈ vs.map txOf := fun k hk => by
    obtain ⟨e, he, q⟩ := (F.mem k).mp hk
    obtain ⟨t, ht⟩ := Value.isStrOf_shape (x := k) (v := e.2) q
    exact List.mem_map.mpr ⟨e.2, pm.mem_iff.mpr (List.mem_map_of_mem he), by rw [ht]; rfl⟩
  have perm : (vs.map txOf).Perm l := perm_sub l (vs.map txOf) nd sub (by rw [List.length_map, hlen])
  have rv : Vals (((vs.map txOf).map fun t => (V.str t, PyData.str t)).map (·.1)) vs := by
    rw [List.map_map, List.map_map]
    have go : ∀ us : List Value, (∀ v ∈ us, ∃ k t, v = Value.str k t ∧ k ∈ l) → Vals (us.map fun v => V.str (txOf v)) us := by
      intro us
      induction us with
      | nil => intro _; exact .nil
      | cons v us ih =>
        intro h
        obtain ⟨k, t, e, _⟩ := h v List.mem_cons_self
        refine .cons ?_ (ih fun x hx => h x (List.mem_cons_of_mem _ hx))
        rw [e]; exact ⟨t, rfl⟩
    exact go vs shape
  have so : SortOk (((vs.map txOf).map fun t => (V.str t, PyData.str t)).map (·.2)) := by
    rw [List.map_map]
    refine ⟨fun d hd e he => ?_, .inr fun d hd => ?_, fun d hd => ?_, ?_⟩
    · obtain ⟨x, _, rfl⟩ := List.mem_map.mp hd
      obtain ⟨y, _, rfl⟩ := List.mem_map.mp he
      rfl
    · obtain ⟨x, _, rfl⟩ := List.mem_map.mp hd
      exact ⟨(fun z => nomatch z), fun xs z => nomatch z⟩
    · obtain ⟨x, _, rfl⟩ := List.mem_map.mp hd
      show (PyData.str x).depth ≤ 8
      simp [PyData.depth]
    · rw [List.length_map, List.length_map, hlen]
      have : scanBound = 4096 := rfl
      omega
  refine wpAny_bind (wpAny_newList ?_ (by rw [hlen]; exact fits_of_scanBound hz))
  have tail := sort_tail (X := X) (pins := pins) (σ := σ) (s := s1) (h' := s1.heap) (tk := s1.toks) (Q := Q) (R := fun _ s' => EP X pins σ Q (.ref s1.heap.objs.size) s') hu I1 rv (fun b hb => by
    obtain ⟨t, _, rfl⟩ := List.mem_map.mp hb
    exact .str t) so (fun b hb => by
    obtain ⟨t, _, rfl⟩ := List.mem_map.mp hb
    exact noL_key (.inr t)) (fun p hp => by
    have e1 : (srtP ((vs.map txOf).map fun t => (V.str t, PyData.str t))).map (·.1) = ((vs.map txOf).mergeSort leX).map V.str := by
      have e2 : srtP ((vs.map txOf).map fun t => (V.str t, PyData.str t)) = ((vs.map txOf).mergeSort leX).map fun t => (V.str t, PyData.str t) := by
        rw [List.map_mergeSort (s := PySem.W.dataLe false (·.2))]
        intro a _ b _
        have := congrFun (congrFun (PySem.W.dataLe_str (fun t : Str => t)) a) b
        exact this.symm
      rw [e2, List.map_map]; rfl
    rw [e1]
    exact q p _ hp ((List.mergeSort_perm _ _).trans perm) (List.pairwise_mergeSort leX_trans leX_total _)) (fun s' h => h) (X.A.in1) (by show X.A.units + 1 ≤ _; omega)
  refine wpAny_bind (wpAny_holding (wpAny_mono tail (fun _ s' h => wpAny_pure ⟨_, rfl, h⟩) fun _ _ h => h))
end
section
variable {K : PySem.W.Frag} {W : WX} {ρ : List Sl} {te : TE} {ds : List D}
def insM (acc : List Str) (k : Str) : List Str := if k ∈ acc then acc else k :: acc
def setM (l : List Str) : List Str := l.foldl insM []
theorem setM_take {l : List Str} {i : Nat} {k : Str} (h : l[i]? = some k) : setM (l.take (i + 1)) = insM (setM (l.take i)) k := by
  unfold setM
  rw [List.take_add_one, List.foldl_append, h]; rfl
theorem evl_sortSet {P : Program} {w : World} {wi : TI} {g : TG} {vs : List Nat} {fs : D → Str} (hw : WiD K wi ρ ds) (hs : ∀ d ∈ ds, ∃ is ρ1, TgD K g is d (wipeS ρ vs) ρ1 ∧ (∀ j ∈ is, j ∈ vs) ∧ EvD K te ρ1 (.str (fs d))) (hb : ∀ i, (setM ((ds.map fs).take i)).length + 1 < scanBound)
    {ss : List Str} (hu : ∀ l : List Str, l.Perm (setM (ds.map fs)) → l.Pairwise (fun a b => leX a b = true) → l = ss) : EvL K (tCB (rSortTx P w) (tCons (tScT P w wi g te vs) tNil)) ρ (ss.map D.str) := fun F0 H0 F H σ R Q q =>
  hw F0 H0 F H σ R _ fun J A F1 H1 g1 src a1 => fun Dl hD => by
    have hD0 : H Dl = none := g1.h.back hD
    have hDF1 : F1 Dl = none := g1.s.back hD
    have hD00 : H0 Dl = none := R.gr.h.back hD0
    have Rw : RelS K F0 H0 F1 H1 (L2.wipe σ vs) (wipeS ρ vs) := (R.grow g1).wipe vs
    have fr := Rw.fresh hD
    refine ⟨fun i m H' => ∃ F', m = ds.length - i ∧ i ≤ ds.length ∧ Gr F H F' H' ∧ RelS K F0 H0 F' H' (L2.wipe σ vs) (wipeS ρ vs) ∧ Ex F1 F' ∧ F' Dl = none ∧ H' Dl = some (SetTO P w Dl (setM ((ds.map fs).take i))),
      ⟨ds.length, F1, rfl, Nat.zero_le _, g1.side hD0 hDF1, Rw.side hD00 hDF1 fr, Ex.refl F1, hDF1, upd_same⟩, ?_⟩
    rintro i m H' ⟨F', rfl, hi, g', R', ex, hDF, hDH⟩
    have a' := src.keep _ _ a1 ex
    by_cases hlt : i < ds.length
    · refine .inr ⟨src.go i F' H' hlt a' R'.ex, fun H2 => ∃ F2, Gr F H F2 H2 ∧ RelS K F0 H0 F2 H2 (L2.wipe σ vs) (wipeS ρ vs) ∧ Ex F1 F2 ∧ F2 Dl = none ∧ H2 Dl = some (SetTO P w Dl (setM ((ds.map fs).take (i + 1)))),
        fun H2 ⟨F2, x1, x2, x3, x4, x5⟩ => ⟨ds.length - (i + 1), by omega, F2, rfl, hlt, x1, x2, x3, x4, x5⟩, fun x H2 y => ?_⟩
      obtain ⟨d, hd⟩ : ∃ d, ds[i]? = some d := ⟨ds[i], List.getElem?_eq_getElem hlt⟩
      obtain ⟨F2, g2, rx⟩ := src.yld i F' H' x H2 d hd a' R'.ex y
      obtain ⟨is, ρ1, tg, sub, hy⟩ := hs d (List.mem_of_getElem? hd)
      refine tg.2 F0 H0 F2 H2 _ x (R'.grow g2) rx _ fun σ3 R3 l3 k3 => ⟨?_, ?_⟩
      · rw [wipe_same l3 k3 sub, wipe_wipe]
      · refine hy F0 H0 F2 H2 σ3 R3 _ fun v F4 H4 g4 r4 => ?_
        cases r4
        have gA := (g'.trans g2).trans g4
        have RA := (R'.grow g2).grow g4
        have nD4 : F4 Dl = none := g4.n _ _ (g2.h _ _ hDH) rfl (g2.n _ _ hDH rfl hDF)
        have hD4 : H4 Dl = some (SetTO P w Dl (setM ((ds.map fs).take i))) := g4.h _ _ (g2.h _ _ hDH)
        have hk : (ds.map fs)[i]? = some (fs d) := by rw [List.getElem?_map, hd]; rfl
        refine ⟨fs d, _, rfl, hD4, hb i, F4, gA.side hD0 nD4, RA.side hD00 nD4 fr, (ex.trans g2.f).trans g4.f, nD4, ?_⟩
        rw [upd_same, setM_take hk]; rfl
    · have e : i = ds.length := by omega
      subst e
      have ht : (ds.map fs).take ds.length = ds.map fs := by rw [← List.length_map (f := fs), List.take_length]
      rw [ht] at hDH
      refine .inl ⟨src.stop _ _ a' R'.ex, ⟨Dl, _, rfl, hDH, fun p l hp h1 h2 => ?_⟩⟩
      have e2 := hu l h1 h2
      subst e2
      exact q p _ F' _ (g'.trans (.own g'.s hp)) (g'.h.back hp) (g'.s.back hp) upd_same Reps.strs
end
end DL
set_option Elab.async false
set_option linter.all false
set_option maxRecDepth 100000
set_option maxHeartbeats 1000000
/-! Exceptions over plain data: raise of an own class without arguments, a call that raises, try .. except X as e. -/
namespace DL
open PySem PySem.Spec PyProof.Rows L2
section
variable {X : Cx} {C : Addr} {bmB : List Value} {B newId initId : String}
/-- X() -/
theorem pmk_none {x : Str} {p pos : Pos} (F : ExcBaseFacts B newId initId bmB) (q : PySem.W.excIn X.K C bmB newId = true) (gC : X.mg x = some (.ref C)) (kC : PySem.W.keepIn X.K (.ref C) = true) (r : Raises X (.ref C)) (hg : Gl X x)
    (hdb : (x == ("__debug__" : Str)) = false := by decide) : L2N.PMk X (.Call (.Name x p) [] [] pos) (fun _ H Q => Q (.ref C) none H) := by
  intro pins s σ H Q I h
  refine wpAny_Call_Name_kw (ld_glob I hg gC ?_ hdb)
  refine PySem.W.callWith_K0 I.kIn kC ?_
  show wpAny _ _ (call (.ref C) []) _ _ _
  obtain ⟨bm, N, nm, qn, bs, hdct, sn, sub, ab, col, dd, k0, k1, k2, k3, k5, mN, hC, hN, hni, T⟩ := exc_obj I.kIn q
  refine wpAny_call_exc_subT F T hC hN hni (fun h' e hm => ?_) (by show 0 ≤ sizeLine; exact Nat.zero_le _)
  exact L2N.mk_of I hm r h (I.hok.gone hm.new)
end
section
variable {K : PySem.W.Frag} {W : WX} {ρ ρ' : List Sl} {te : TE} {t u : TS} {o : Out} {ds : List D} {ta : TA} {i n : Nat} {f : List D → Res → Prop}
/-- raise X() -/
theorem sv_raise {C : Addr} : SvD K W (fun _ σ H => W (.ref C) none σ H) ρ (.er C [] ρ) := fun E F0 H0 F H σ R p => p none σ F H (Ex.refl F) R (.inl ⟨rfl, rfl⟩)
/-- a call that raises, as a statement -/
theorem sv_callEr {C : Addr} {fs : List (Str × D)} (h : AvD K ta ρ ds) (hf : f ds (.er C fs)) (hn : ds.length = n := by rfl) : SvD K W (tDrop (tCallS (SpF K n f) (WE W) ta)) ρ (.er C fs ρ) := fun E F0 H0 F H σ R p =>
  h F0 H0 F H σ R _ fun vs F1 H1 g1 r1 => ⟨F1, ds, .er C fs, g1.s, r1, by rw [r1.length]; exact hn, hf, fun od F2 H2 g2 x => p od σ F2 H2 (g1.trans g2).f (R.grow (g1.trans g2)) x⟩
/-- try: body, except c as (slot i): suite -/
def tTryAs (K : PySem.W.Frag) (c : Value) (i : Nat) (tb : WX → TS) (ts : Addr → Value → Option Addr → TS) (Wout : WX) : TS := fun D σ H => tb (wAs K c i ts Wout D) D σ H
theorem sv_tryOk {c : Value} {tb : WX → TS} {ts : Addr → Value → Option Addr → TS} (h : ∀ W', SvD K W' (tb W') ρ o) (hne : ∀ C fs ρ', o ≠ .er C fs ρ') : SvD K W (tTryAs K c i tb ts W) ρ o := fun E F0 H0 F H σ R p =>
  h _ E F0 H0 F H σ R (by cases o with
    | nx ρ => exact p
    | rt d => exact p
    | bk ρ => exact p
    | ct ρ => exact p
    | er C fs ρ' => exact absurd rfl (hne C fs ρ'))
/-- the slot of the name is emptied behind the suite -/
def Out.gone (i : Nat) : Out → Out
  | .nx ρ => .nx (ρ.set i .no)
  | .bk ρ => .bk (ρ.set i .no)
  | .ct ρ => .ct (ρ.set i .no)
  | o => o
theorem sv_tryEr {c : Value} {tb : WX → TS} {ts : Addr → Value → Option Addr → TS} {C : Addr} {fs : List (Str × D)} {ρ1 : List Sl} (h : ∀ W', SvD K W' (tb W') ρ (.er C fs ρ1)) (hx : PySem.W.exmOne K (.ref C) c = some true)
    (hs : ∀ (a : Addr) (od : Option Addr), SvD K W (ts a (.ref C) od) (ρ1.set i (.d (.cls a))) o) (hne : ∀ C fs ρ', o ≠ .er C fs ρ') : SvD K W (tTryAs K c i tb ts W) ρ (o.gone i) := fun E F0 H0 F H σ R p =>
  h _ E F0 H0 F H σ R fun od σ1 F1 H1 e1 R1 xr => ⟨true, hx, fun _ a ha => hs a od _ F0 H0 F1 H1 (σ1.set i (some (.ref a))) (R1.set i (.cls a)) (by
    cases o with
    | nx ρ => exact fun σ2 F2 H2 e2 R2 => p _ F2 H2 (e1.trans e2) (R2.forget i none)
    | rt d => exact fun v F2 H2 e2 g2 r2 => p v F2 H2 (e1.trans e2) g2 r2
    | bk ρ => exact fun σ2 F2 H2 e2 R2 => p _ F2 H2 (e1.trans e2) (R2.forget i none)
    | ct ρ => exact fun σ2 F2 H2 e2 R2 => p _ F2 H2 (e1.trans e2) (R2.forget i none)
    | er C fs ρ' => exact absurd rfl (hne C fs ρ')), fun z => nomatch z⟩
end
end DL
set_option Elab.async false
set_option linter.all false
set_option maxRecDepth 100000
set_option maxHeartbeats 1000000
/-! A def that is called in a suite and handed the exception that is handled there; isinstance of it. -/
namespace DL
open PySem PySem.Spec PyProof.Rows L2
/-- what such a def promises: the promise may speak of the handled exception p -/
structure FnX (P : Program) (w : World) (K : PySem.W.Frag) (mg : Str → Option Value) (base : Heap) (CX : CXT) (k : Nat) (f : Addr) (fd : FuncData) (ps : List Str) (sp : Addr × Obj → Sp) : Prop where
  len : ∀ p vs H Q E, sp p vs H Q E → vs.length = ps.length
  run : ∀ (A : Around) (outer : List Env) (s : Shared) (H : Hp) (args : Args) (us : List Value) (vs : List V) (Q : VK) (E : XK) (p : Addr × Obj), L2H.RoomH k A → L2H.Hot1 A p → L2H.PinOk outer H s p → Env0 P w K mg base A outer s H → BindsTo s fd args (ps.zip us) → Vals vs us → sp p vs H Q E →
    codeAny (model P w) A (.call (.ref f) args) (CR CX outer P w H s Q E) s
theorem fnX_of {CX : CXT} {P : Program} {w : World} {K : PySem.W.Frag} {mg : Str → Option Value} {base : Heap} {k : Nat} {x qual : Str} {st : Stmt} {f : Addr} {fd : FuncData} {N ps : List Str} {sp : Addr × Obj → Sp} (F : Fun K x qual st f fd) (S : FnScope N ps (defScope st))
    (len : ∀ p vs H Q E, sp p vs H Q E → vs.length = ps.length)
    (body : ∀ (cdv : Value) (A : Around) (outer : List Env) (s : Shared) (H : Hp) (vs : List V) (Q : VK) (E : XK) (p : Addr × Obj), L2H.Hot1 A p → L2H.RoomH k (A.deeper (envOfC qual (defScope st) s.heap.objs.size f cdv)) → sp p vs H Q E →
      ∃ t, PSs (L2H.cxH CX P w K mg base N qual (defScope st) f cdv A outer s H E p) (defBody st) t ∧ t { nx := fun _ H' => Q .non H', rt := Q } (L2.start N vs) H) : FnX P w K mg base CX (k + 1) f fd ps sp := by
  obtain ⟨oc, od, kV, doc, pm, an, cdv, ct, osl, rfl, lk, hcd⟩ := F.ex
  refine ⟨len, fun A outer s H args us vs Q E p room hot pin e0 bnd rv h => ?_⟩
  have hl := len _ _ _ _ _ h
  have kin : K.In s.heap := e0.mod.kin.keeps fun b o e => (e0.bs b o e).1
  have nolim : s.heap.NoLimit := e0.mod.nolimit.keeps fun b o e => (e0.bs b o e).1
  have kinds : ∀ y ∈ ps.zip us, (defScope st).names.lookup y.1 = some .local ∨ ((defScope st).names.lookup y.1 = some .cell ∧ ((cellsFrom (s.heap.objs.size + 1) (defScope st).names []).lookup y.1).isSome = true) := fun y hy =>
    (S.par y.1 (List.of_mem_zip hy).1).imp id fun q => ⟨q, PySem.W.cellsFrom_some _ _ _ (.inl q)⟩
  refine codeAny_call_function room.depth (kin _ _ lk) rfl S.co S.gen rfl (PySem.W.codeRec_of kin hcd) (bnd _ _ _ _ ?_)
  refine wpAny_newFunctionEnv_cells S.kind kinds fun env he s1 z => ?_
  subst he
  refine ⟨nolim.keeps z.toInCall.keep, codeAny_func ?_⟩
  obtain ⟨t, ht, hq⟩ := body cdv A outer s H vs Q E p hot (room.deeper _) h
  refine wpAny_mono (ht.run [] s1 (L2.start N vs) H _ (L2H.inv_startH S pin e0 hl rv z) hq) (fun fl s' hs => ?_) fun e s' hs => hs
  cases fl with
  | ret u =>
    obtain ⟨v, σ', H', J, rw, q⟩ := hs
    exact ⟨v, H', J.os, J.bare, J.base, J.hok, rw, q⟩
  | next =>
    obtain ⟨σ', H', J, q⟩ := hs
    exact ⟨.non, H', J.os, J.bare, J.base, J.hok, rfl, q⟩
  | brk => obtain ⟨_, _, _, q⟩ := hs; exact q.elim
  | cont => obtain ⟨_, _, _, q⟩ := hs; exact q.elim
theorem vals_refs_eq : ∀ {cs : List Addr} {us : List Value}, Vals (cs.map V.ref) us → us = cs.map Value.ref
  | [], us, h => by cases h; rfl
  | c :: cs, us, h => by
    cases h with
    | cons h r =>
      cases h
      rw [vals_refs_eq r]; rfl
section
variable {X : Cx} {CX : CXT} {k : Nat} {f : Addr} {fd : FuncData} {ps : List Str} {sp : Addr × Obj → Sp} {E : L2.St → XK} {x : Str} {q pos : Pos} {e : Expr} {es : List Expr} {t : TA} {p : Addr × Obj}
theorem pe_callX (F : FnX X.prog X.w X.K X.mg X.base CX k f fd ps sp) (hr : L2H.RoomH k X.A) (hot : L2H.Hot1 X.A p) (hp : p ∈ X.pn) (hg : Gl X x) (hm : X.mg x = some (.ref f)) (hk : PySem.W.keepIn X.K (.ref f) = true) (hb : Binds X.K fd ps []) (hx : ∀ σ, PassesAt CX X σ (E σ))
    (ha : PA X (e :: es) t) (hdb : (x == ("__debug__" : Str)) = false := by decide) (he : starEach (e :: es) X.env = (false, eval e X.env) :: starEach es X.env := by rfl) (hpl : (backTo pos (starEach es X.env)).any (·.1) = false := by rfl) :
    PE X (.Call (.Name x q) (e :: es) [] pos) (tCallS (sp p) E t) := by
  refine ⟨fun pins s σ H Q I h => ?_⟩
  refine wpAny_Call_Name_kw (ld_glob I hg hm ?_ hdb)
  refine PySem.W.callWith_K (h₀ := X.base) I.ok.mod.kin hk (thn (ha.run pos pins s σ H _ I h) fun us s1 ⟨vs, H1, I1, r, q⟩ => ⟨I1.kIn, ?_⟩) he hpl
  have hl : us.length = ps.length := by rw [← r.length]; exact F.len _ _ _ _ _ q
  have b := hb s1 us I1.kIn (by rw [List.append_nil]; exact hl)
  rw [List.append_nil] at b
  have P1 := I1.pin p (List.mem_append_left _ hp)
  have pin : L2H.PinOk X.stack H1 s1 p := ⟨P1.1, P1.2.1, fun hm => (List.mem_cons.mp (I1.stkSub p.1 hm)).elim P1.2.2.1 P1.2.2.2.1, P1.2.2.2.2⟩
  refine wpAny_call (codeAny_mono (F.run X.A X.stack s1 H1 ⟨us, []⟩ us vs Q (E σ) p hr hot pin I1.env0 b r q) fun r s' hq => ?_)
  cases r with
  | error e => exact hx σ pins H1 s1 e s' I1 hq
  | ok fl =>
    cases fl with
    | ret u => exact I1.after hq
    | next => exact hq.elim
    | brk => exact hq.elim
    | cont => exact hq.elim
/-- isinstance of the pinned exception (a, oe), one class or a tuple of classes -/
def rIsX (K : PySem.W.Frag) (p : Addr × Obj) : List V → Hp → VK → Prop := fun xs H Q => ∃ (D : Addr) (b : Bool), p.2.cls = .ref D ∧ p.2.dict = none ∧ (∃ vs, p.2.data = .fields vs) ∧ ExcC K D ∧
  ((∃ (c : V) (cv : Value), xs = [.ref p.1, c] ∧ (∀ u, RelV c u → u = cv) ∧ PySem.W.kitOne K (.ref D) cv = some b ∧ Q (.bl b) H) ∨
   ∃ (tp : Addr) (cs : List Addr), xs = [.ref p.1, .ref tp] ∧ H tp = some (.tup (cs.map V.ref)) ∧ PySem.W.kitAny K (.ref D) (cs.map Value.ref) = some b ∧ Q (.bl b) H)
theorem cr_isX (hp : p ∈ X.pn) : CallR X (.builtin "isinstance") (rIsX X.K p) := by
  intro pins s σ H xs us Q I r h
  obtain ⟨D, b, h1, h2, ⟨vs, hv⟩, C, h⟩ := h
  obtain ⟨a, oc, od, oda, osl⟩ := p
  dsimp only at h1 h2 hv h
  subst h1 h2 hv
  have get := (I.pin _ (List.mem_append_left _ hp)).1
  have J : PySem.W.InstAt s.heap a ⟨.ref D, none, .fields vs, osl⟩ D none := ⟨get, rfl, rfl, trivial⟩
  have Z := PySem.W.handS_kitx_exc (x := a) (ox := ⟨.ref D, none, .fields vs, osl⟩) C.hg C.hk C.hs C.hd C.ha C.hn C.ht C.hm
  rcases h with ⟨c, cv, rfl, hcv, e, q⟩ | ⟨tp, cs, rfl, ht, e, q⟩
  · cases r with
    | cons rx rr =>
      cases rr with
      | cons rt rr =>
        cases rr
        cases rx
        have ec := hcv _ rt
        subst ec
        exact PySem.W.kia_one Z I.kIn J e (fun z => nomatch z) fun tk => ⟨.bl b, H, I.kept (t' := tk) fun _ _ z => z, rfl, q⟩
  · cases r with
    | cons rx rr =>
      cases rr with
      | cons rt rr =>
        cases rr
        cases rx
        cases rt
        obtain ⟨_, its, rv, ⟨tc, td, tda, tsl⟩, g1, g2, n, g3⟩ := (show ObjOk X.prog X.w H s.heap tp (.tup (cs.map V.ref)) from I.hok tp _ ht)
        dsimp only at g2 g3
        subst g2 g3
        have ei : its = cs.map Value.ref := vals_refs_eq rv
        subst ei
        exact PySem.W.kia_tup Z I.kIn J g1 e (fun z => nomatch z) fun tk => ⟨.bl b, H, I.kept (t' := tk) fun _ _ z => z, rfl, q⟩
end
end DL
set_option Elab.async false
set_option linter.all false
set_option maxRecDepth 100000
set_option maxHeartbeats 1000000
/-! Exceptions without fields over plain data: raise, try .. except C as e, isinstance(e, ..), a def that is handed e. -/
namespace DL
open PySem PySem.Spec PyProof.Rows L2
/-! ### the rules of syntax -/
def tRaise (C : Addr) (W : WX) : TS := fun _ σ H => W (.ref C) none σ H
/-- what the written part says of a class that is raised without arguments -/
structure ErrF (K : PySem.W.Frag) (C : Addr) : Prop where
  ex : PySem.W.excIn K C He.veBase "ValueError.__new__" = true
  kp : PySem.W.keepIn K (.ref C) = true
  sb : PySem.W.subIn K (.ref C) (.type "BaseException") = some true
  ty : PySem.W.typeIn K (.ref C) = some (.type "type")
theorem errF_ok {K : PySem.W.Frag} {x : Str} (c : (He.Fa.exc x).ok K = true) : ErrF K (He.ga K x) := by
  obtain ⟨a, b, c, d⟩ := He.exc_ok c
  exact ⟨a, b, c, d⟩
section
variable {X : Cx} {C : Addr} {x : Str} {p pos pos2 : Pos} {W : WX}
theorem ps_raiseD (hc : X.calm = true) (tk : L2N.Takes X W) (e : ErrF X.K C) (gC : X.mg x = some (.ref C)) (hg : Gl X x) (hdb : (x == ("__debug__" : Str)) = false := by decide) :
    PS X (.Raise (some (.Call (.Name x p) [] [] pos)) none pos2) (tRaise C W) :=
  L2N.ps_raise hc tk (pmk_none F.excBase_ValueError e.ex gC e.kp (raises_own e.sb e.ty) hg hdb)
end
section
variable {X : Cx} {x n : Str} {c : Value} {i : Nat} {body suite : List Stmt} {b₀ : Stmt} {np pos pos' : Pos} {tb : WX → TS} {ts : Addr → Value → Option Addr → TS} {Wout : WX}
theorem ps_tryD (i : Nat) (hs : X.stack = X.env :: X.outer) (hf : X.env.frame = some X.env.locals) (hN : X.N.Nodup) (hi : X.N[i]? = some n) (hln : X.env.kindOf n = some .local) (hc : L2.Names X x c) (tk : L2N.Takes X Wout)
    (hb : ∀ (W : WX) (pn : List (Addr × Obj)) (xe : Value → Shared → Prop), L2N.Takes (X.tr pn xe) W → PassesOwn (model X.prog X.w) X.A X.env xe → PSs (X.tr pn xe) body (tb W))
    (hsu : ∀ (a : Addr) (oe : Obj) (cls : Value) (d : Option Addr) (pn : List (Addr × Obj)), L2N.Zn cls d oe → (∃ vs, oe.data = .fields vs) → PSs (X.suite a ((a, oe) :: pn)) (b₀ :: suite) (ts a cls d)) :
    PS X (.Try body [.ExceptHandler (some (.Name x np)) (some n) (b₀ :: suite) pos'] [] [] pos) (tTryAs X.K c i tb ts Wout) :=
  L2N.ps_try_as hs hf hN hi hln hc tk hb hsu
end
/-- isinstance of the handled exception: at a, of class cls, dict d -/
def rIsY (K : PySem.W.Frag) (a : Addr) (cls : Value) (d : Option Addr) : List V → Hp → VK → Prop := fun xs H Q => ∃ (D : Addr) (b : Bool), cls = .ref D ∧ d = none ∧ ExcC K D ∧
  ((∃ (c : V) (cv : Value), xs = [.ref a, c] ∧ (∀ u, RelV c u → u = cv) ∧ PySem.W.kitOne K (.ref D) cv = some b ∧ Q (.bl b) H) ∨
   ∃ (tp : Addr) (cs : List Addr), xs = [.ref a, .ref tp] ∧ H tp = some (.tup (cs.map V.ref)) ∧ PySem.W.kitAny K (.ref D) (cs.map Value.ref) = some b ∧ Q (.bl b) H)
theorem cr_isY {X : Cx} {a : Addr} {cls : Value} {d : Option Addr} {oe : Obj} (hp : (a, oe) ∈ X.pn) (hz : oe.cls = cls ∧ oe.dict = d) (hf : ∃ vs, oe.data = .fields vs) : CallR X (.builtin "isinstance") (rIsY X.K a cls d) := fun pins s σ H xs us Q I r h => by
  obtain ⟨D, b, h1, h2, C, h⟩ := h
  exact cr_isX hp pins s σ H xs us Q I r ⟨D, b, hz.1.trans h1, hz.2.trans h2, hf, C, h⟩
/-- the promise of a def that is handed the exception -/
def SpY (K : PySem.W.Frag) (n : Nat) (fr : Addr → Addr → List D → Res → Prop) (a : Addr) (cls : Value) (d : Option Addr) : Sp := fun vs H Q E => ∃ D : Addr, cls = .ref D ∧ d = none ∧ SpF K n (fr a D) vs H Q E
def CalX (P : Program) (w : World) (K : PySem.W.Frag) (mg : Str → Option Value) (base : Heap) (k : Nat) (x : Str) (ps : List Str) (fr : Addr → Addr → List D → Res → Prop) : Prop :=
  ∃ f fd, mg x = some (.ref f) ∧ PySem.W.keepIn K (.ref f) = true ∧ Binds K fd ps [] ∧ FnX P w K mg base (L2N.CX P w) k f fd ps (fun p => SpY K ps.length fr p.1 p.2.cls p.2.dict)
theorem pe_callY {X : Cx} {x : Str} {q pos : Pos} {e : Expr} {es : List Expr} {t : TA} {W : WX} {k : Nat} {ps : List Str} {fr : Addr → Addr → List D → Res → Prop} {a : Addr} {oe : Obj} {cls : Value} {d : Option Addr}
    (C : CalX X.prog X.w X.K X.mg X.base k x ps fr) (hr : L2H.RoomH k X.A) (hh : X.A.handled = some (.ref a)) (hp : (a, oe) ∈ X.pn) (hz : L2N.Zn cls d oe) (hf : ∃ vs, oe.data = .fields vs) (hg : Gl X x) (tk : L2N.Takes X W) (ha : PA X (e :: es) t)
    (hdb : (x == ("__debug__" : Str)) = false := by decide) (he : starEach (e :: es) X.env = (false, eval e X.env) :: starEach es X.env := by rfl) (hpl : (backTo pos (starEach es X.env)).any (·.1) = false := by rfl) :
    PE X (.Call (.Name x q) (e :: es) [] pos) (tCallS (SpY X.K ps.length fr a cls d) (WE W) t) := by
  obtain ⟨f, fd, h1, h2, h3, h4⟩ := C
  obtain ⟨vs, hv⟩ := hf
  have z := pe_callX (q := q) (p := (a, oe)) h4 hr ⟨hh, vs, hv, hz.2.2 vs hv⟩ hp hg h1 h2 h3 (fun σ => L2N.passAt tk σ) ha hdb he hpl
  have e1 : oe.cls = cls := hz.1
  have e2 : oe.dict = d := hz.2.1
  rw [← e1, ← e2]
  exact z
theorem calX_of {P : Program} {w : World} {K : PySem.W.Frag} {mg : Str → Option Value} {base : Heap} {k : Nat} {x : Str} {st : Stmt} {N ps : List Str} (A : FunAt K mg x st ps) (S : FnScope N ps (defScope st)) (fr : Addr → Addr → List D → Res → Prop)
    (hbody : ∀ (f : Addr) (cdv : Value) (A : Around) (outer : List Env) (s : Shared) (H : Hp) (E : XK) (p : Addr × Obj), L2H.Hot1 A p → L2H.RoomH k (A.deeper (envOfC x (defScope st) s.heap.objs.size f cdv)) → (∃ vs, p.2.data = .fields vs) →
      ∃ t, PSs (L2H.cxH (L2N.CX P w) P w K mg base N x (defScope st) f cdv A outer s H E p) (defBody st) t ∧ ∀ C, p.2.cls = .ref C → p.2.dict = none → ∀ ds r, fr p.1 C ds r → ds.length = ps.length → FnEnd K (wD E) t (entry N ds) r) : CalX P w K mg base (k + 1) x ps fr := by
  obtain ⟨f, fd, h1, h2, h3⟩ := A
  refine ⟨f, fd, h1, h2.kp, h3, fnX_of h2 S (fun p vs H Q E h => ?_) fun cdv A outer s H vs Q E p hot hr h => ?_⟩
  · obtain ⟨_, _, _, _, _, _, _, _, h, _⟩ := h
    exact h
  · have hf : ∃ vs, p.2.data = .fields vs := by obtain ⟨_, vs, e, _⟩ := hot; exact ⟨vs, e⟩
    obtain ⟨t, ht, hs⟩ := hbody f cdv A outer s H E p hot hr hf
    obtain ⟨C, hC, hd, F1, ds, r, ex, rs, hl, hfr, q⟩ := h
    refine ⟨t, ht, ?_⟩
    have R := entry_rel (N := N) ex rs
    rcases hs C hC hd ds r hfr (by rw [← rs.length]; exact hl) with h | ⟨rfl, ρ', h⟩
    · cases r with
      | ok d => exact h _ F1 H F1 H _ R fun v F' H' _ g rv => q v F' H' g rv
      | er C fs =>
        obtain ⟨ρ', h⟩ := h
        exact h _ F1 H F1 H _ R fun od σ F' H' _ g rv => q od F' H' g.gr rv
    · exact h _ F1 H F1 H _ R fun σ F' H' _ R' => q .non F' H' R'.gr .non
/-! ### over plain data -/
section
variable {K : PySem.W.Frag} {W : WX} {ρ ρ' : List Sl} {te ta tb : TE} {t u : TS} {o : Out} {d : D} {ds : List D} {tg : TA} {i n : Nat} {f : List D → Res → Prop} {C : Addr}
theorem sv_raiseD : SvD K W (tRaise C W) ρ (.er C [] ρ) := sv_raise
/-- the body ends well -/
theorem sv_tryOkD {c : Value} {tb : WX → TS} {ts : Addr → Value → Option Addr → TS} (h : ∀ W', SvD K W' (tb W') ρ o) (hne : ∀ C fs ρ', o ≠ .er C fs ρ') : SvD K W (tTryAs K c i tb ts W) ρ o := sv_tryOk h hne
/-- the body raises C(), the clause takes it -/
theorem sv_tryErD {c : Value} {tb : WX → TS} {ts : Addr → Value → Option Addr → TS} {ρ1 : List Sl} (h : ∀ W', SvD K W' (tb W') ρ (.er C [] ρ1)) (hx : PySem.W.exmOne K (.ref C) c = some true)
    (hs : ∀ a : Addr, SvD K (fun _ _ _ _ => False) (ts a (.ref C) none) (ρ1.set i (.d (.cls a))) o) (hne : ∀ C fs ρ', o ≠ .er C fs ρ') : SvD K W (tTryAs K c i tb ts W) ρ (o.gone i) := fun E F0 H0 F H σ R p =>
  h _ E F0 H0 F H σ R fun od σ1 F1 H1 e1 R1 xr => by
    have hod : od = none := by
      rcases xr with ⟨_, e⟩ | ⟨z, _⟩
      · exact e
      · exact absurd rfl z
    subst hod
    exact ⟨true, hx, fun _ a ha => hs a _ F0 H0 F1 H1 (σ1.set i (some (.ref a))) (R1.set i (.cls a)) (by
      cases o with
      | nx ρ => exact fun σ2 F2 H2 e2 R2 => p _ F2 H2 (e1.trans e2) (R2.forget i none)
      | rt d => exact fun v F2 H2 e2 g2 r2 => p v F2 H2 (e1.trans e2) g2 r2
      | bk ρ => exact fun σ2 F2 H2 e2 R2 => p _ F2 H2 (e1.trans e2) (R2.forget i none)
      | ct ρ => exact fun σ2 F2 H2 e2 R2 => p _ F2 H2 (e1.trans e2) (R2.forget i none)
      | er C fs ρ' => exact absurd rfl (hne C fs ρ')), fun z => nomatch z⟩
/-- the body raises C(..), the clause lets it pass -/
theorem sv_tryNoD {c : Value} {tb : WX → TS} {ts : Addr → Value → Option Addr → TS} {fs : List (Str × D)} {ρ1 : List Sl} (h : ∀ W', SvD K W' (tb W') ρ (.er C fs ρ1)) (hx : PySem.W.exmOne K (.ref C) c = some false) : SvD K W (tTryAs K c i tb ts W) ρ (.er C fs ρ1) := fun E F0 H0 F H σ R p =>
  h _ E F0 H0 F H σ R fun od σ1 F1 H1 e1 R1 xr => ⟨false, hx, (fun z => nomatch z), fun _ => p od σ1 F1 H1 e1 R1 xr⟩
/-- a call that raises, in an expression's place: as a statement that gives a name, that returns -/
theorem sv_asgEr {g : TG} (h : AvD K tg ρ ds) {fs : List (Str × D)} (hf : f ds (.er C fs)) (hn : ds.length = n := by rfl) : SvD K W (tAsg (tCallS (SpF K n f) (WE W) tg) g) ρ (.er C fs ρ) := fun E F0 H0 F H σ R p =>
  h F0 H0 F H σ R _ fun vs F1 H1 g1 r1 => ⟨F1, ds, .er C fs, g1.s, r1, by rw [r1.length]; exact hn, hf, fun od F2 H2 g2 x => p od σ F2 H2 (g1.trans g2).f (R.grow (g1.trans g2)) x⟩
theorem sv_retEr (h : AvD K tg ρ ds) {fs : List (Str × D)} (hf : f ds (.er C fs)) (hn : ds.length = n := by rfl) : SvD K W (tRet (tCallS (SpF K n f) (WE W) tg)) ρ (.er C fs ρ) := fun E F0 H0 F H σ R p =>
  h F0 H0 F H σ R _ fun vs F1 H1 g1 r1 => ⟨F1, ds, .er C fs, g1.s, r1, by rw [r1.length]; exact hn, hf, fun od F2 H2 g2 x => p od σ F2 H2 (g1.trans g2).f (R.grow (g1.trans g2)) x⟩
theorem ev_cls {C : Addr} : EvD K (tC (.ref C)) ρ (.cls C) := fun F0 H0 F H σ R Q q => q _ F H (.refl R.ex) (.cls C)
theorem ev_isC {a D : Addr} {b : Bool} (ha : EvD K ta ρ (.cls a)) (e : ExcC K D) (hk : PySem.W.kitOne K (.ref D) (.ref C) = some b) : EvD K (tCB (rIsY K a (.ref D) none) (tCons ta (tCons (tC (.ref C)) tNil))) ρ (.bl b) :=
  ev_cb (av_cons ha (av_cons ev_cls av_nil)) fun F H ex vs r Q q => by
    cases r with
    | cons r1 r =>
      cases r with
      | cons r2 r =>
        cases r1; cases r2; cases r
        exact ⟨D, b, rfl, rfl, e, .inl ⟨_, .ref C, rfl, fun u h => h, hk, q _ F H (.refl ex) (.bl b)⟩⟩
theorem ev_isT {a D : Addr} {b : Bool} {nm : String} (ha : EvD K ta ρ (.cls a)) (e : ExcC K D) (hk : PySem.W.kitOne K (.ref D) (.type nm) = some b) : EvD K (tCB (rIsY K a (.ref D) none) (tCons ta (tCons (tC (.ty nm)) tNil))) ρ (.bl b) :=
  ev_cb (av_cons ha (av_cons ev_ty av_nil)) fun F H ex vs r Q q => by
    cases r with
    | cons r1 r =>
      cases r with
      | cons r2 r =>
        cases r1; cases r2; cases r
        exact ⟨D, b, rfl, rfl, e, .inl ⟨_, .type nm, rfl, fun u h => h, hk, q _ F H (.refl ex) (.bl b)⟩⟩
theorem reps_cls {F : Hp} : ∀ {vs : List V} {cs : List Addr}, Reps K F vs (cs.map D.cls) → vs = cs.map V.ref
  | vs, [], h => by cases h; rfl
  | vs, c :: cs, h => by
    cases h with
    | cons h r =>
      cases h
      rw [reps_cls r]; rfl
theorem ev_isN {a C : Addr} {b : Bool} {cs : List Addr} (ha : EvD K ta ρ (.cls a)) (e : ExcC K C) (ht : EvD K tb ρ (.tup (cs.map D.cls))) (hk : PySem.W.kitAny K (.ref C) (cs.map Value.ref) = some b) : EvD K (tCB (rIsY K a (.ref C) none) (tCons ta (tCons tb tNil))) ρ (.bl b) :=
  ev_cb (av_cons ha (av_cons ht av_nil)) fun F H ex vs r Q q => by
    cases r with
    | cons r1 r =>
      cases r with
      | cons r2 r =>
        cases r1; cases r
        cases r2 with
        | tup h rs =>
          rw [reps_cls rs] at h
          exact ⟨C, b, rfl, rfl, e, .inr ⟨_, cs, rfl, ex _ _ h, hk, q _ F H (.refl ex) (.bl b)⟩⟩
theorem ev_callY {fr : Addr → Addr → List D → Res → Prop} {a : Addr} {Es : L2.St → XK} (h : AvD K tg ρ ds) (hf : fr a C ds (.ok d)) (hn : ds.length = n := by rfl) : EvD K (tCallS (SpY K n fr a (.ref C) none) Es tg) ρ d := fun F0 H0 F H σ R Q q =>
  h F0 H0 F H σ R _ fun vs F1 H1 g1 r1 => ⟨C, rfl, rfl, F1, ds, .ok d, g1.s, r1, by rw [r1.length]; exact hn, hf, fun v F2 H2 g2 r2 => q v F2 H2 (g1.trans g2) r2⟩
/-- all classes of a tuple -/
theorem av_clss : ∀ (cs : List Addr), AvD K (cs.foldr (fun c t => tCons (tC (.ref c)) t) tNil) ρ (cs.map D.cls)
  | [] => av_nil
  | c :: cs => av_cons ev_cls (av_clss cs)
theorem ev_gcd {i j : Int} (ha : EvD K ta ρ (.int i)) (hb : EvD K tb ρ (.int j)) : EvD K (tCB rGcd (tCons ta (tCons tb tNil))) ρ (.int ((Nat.gcd i.natAbs j.natAbs : Nat) : Int)) := ev_cb (av_cons ha (av_cons hb av_nil)) fun F H e vs r Q q => by
  cases r with
  | cons a r =>
    cases r with
    | cons b r =>
      cases a; cases b; cases r
      exact ⟨i, j, rfl, q _ F H (.refl e) (.int _)⟩
end
end DL
namespace DL
open PySem PySem.Spec PyProof.Rows L2
/-- a name is given a comprehension over a dict that is locked meanwhile -/
theorem sv_lockAsg {K : PySem.W.Frag} {W : WX} {te : TE} {i : Nat} {ρ : List Sl} {o : Out} (h : SvD K W (tAsg (tLockEA te) (gName i)) ρ o) : SvD K W (tLockA (tAsg te (gName i))) ρ o := fun E F0 H0 F H σ R p => h E F0 H0 F H σ R p
/-- len of a dict -/
theorem ev_minL {K : PySem.W.Frag} {te : TE} {ρ : List Sl} {ns : List Int} {m : Int} (h : EvSL K te ρ (ns.map D.int)) (hm : m ∈ ns) (hy : ∀ y ∈ ns, m ≤ y) : EvD K (tCB (rMin K) (tCons te tNil)) ρ (.int m) := ev_cbSL h fun F H e p vs s r Q q => by
  have e1 := r.ints_inv
  subst e1
  refine ⟨p, ns, rfl, s, List.length_pos_of_mem hm, fun m' h1 h2 => ?_⟩
  have a := hy m' h1
  have b := h2 m hm
  have : m' = m := by omega
  subst this
  exact q _ F H (.refl e) (.int _)
end DL
namespace DL
open PySem PySem.Spec PyProof.Rows L2
/-- len of a dict, locked or not -/
def rLenD : List V → Hp → VK → Prop := fun xs H Q => ∃ a : Addr, xs = [.ref a] ∧ ((∃ ws : List (Key × V), Rd H a (.dK ws) ∧ Q (.int ((ws.length : Nat) : Int)) H) ∨ ∃ ws : List (List Key × V), Rd H a (.dT ws) ∧ Q (.int ((ws.length : Nat) : Int)) H)
theorem cr_lenD {X : Cx} : CallR X (.builtin "len") rLenD := by
  intro pins s σ H xs us Q I r h
  obtain ⟨a, rfl, h⟩ := h
  obtain ⟨u, rfl, rx⟩ := vals1 r
  obtain rfl : u = .ref a := rx
  rcases h with ⟨ws, hp, q⟩ | ⟨ws, hp, q⟩
  · exact d_len I hp fun t s' I' => ⟨.int ws.length, H, I', ⟨t, rfl⟩, q⟩
  · obtain ⟨z, hd, ys, rel, dd⟩ := dt_rd I.hok hp
    have hl : ws.length = ys.length := Paired.length rel
    refine call_len_dictH hd dd (by rw [← hl]; rw [sizeLine_eq] at z; omega) ?_
    rw [← hl]
    exact ⟨.int ((ws.length : Nat) : Int), H, I.tok _, ⟨_, rfl⟩, q⟩
theorem ev_lenDT {K : PySem.W.Frag} {te : TE} {ρ : List Sl} {kvs : List (List Key × D)} (h : EvDT K te ρ kvs) : EvD K (tCB rLenD (tCons te tNil)) ρ (.int (kvs.length : Int)) := fun F0 H0 F H σ R Q q =>
  h F0 H0 F H σ R _ fun a ws F1 H1 g1 s1 r1 => ⟨a, rfl, .inr ⟨ws, s1, by rw [r1.length]; exact q _ F1 H1 g1 (.int _)⟩⟩
theorem ev_lenDK {K : PySem.W.Frag} {te : TE} {ρ : List Sl} {kvs : List (Key × D)} (h : EvDK K te ρ kvs) : EvD K (tCB rLenD (tCons te tNil)) ρ (.int (kvs.length : Int)) := fun F0 H0 F H σ R Q q =>
  h F0 H0 F H σ R _ fun a ws F1 H1 g1 s1 r1 => ⟨a, rfl, .inl ⟨ws, s1, by rw [r1.length]; exact q _ F1 H1 g1 (.int _)⟩⟩
end DL
set_option Elab.async false
set_option linter.all false
set_option maxRecDepth 100000
set_option maxHeartbeats 2000000
/-! The head by facts: defs, classes, built-ins of other modules; a law's end over it. -/
namespace DL
open PySem PySem.Spec PyProof.Rows L2
/-! ### facts beside the library's -/
def ifTrue (o : Option Bool) : Bool := match o with
  | some b => b
  | none => false
theorem ifTrue_ok {o : Option Bool} (h : ifTrue o = true) : o = some true := by
  cases o with
  | none => cases h
  | some b =>
    have e : b = true := h
    rw [e]
def ifFalse (o : Option Bool) : Bool := match o with
  | some b => !b
  | none => false
theorem ifFalse_ok {o : Option Bool} (h : ifFalse o = true) : o = some false := by
  cases o with
  | none => cases h
  | some b =>
    cases b with
    | false => rfl
    | true => cases h
/-- isinstance asks instances of the class C rightly -/
def excB (K : PySem.W.Frag) (C : Addr) : Bool :=
  He.eqO (PySem.W.findIn K (.ref C) "__getattribute__") (some (some (.builtin "BaseException.__getattribute__"))) && (He.eqO (PySem.W.findIn K (.ref C) "__getattr__") (some none) &&
  (ifTrue (PySem.W.subIn K (.ref C) (.type "BaseException")) && (PySem.W.hasDictIn K C && (He.eqO (PySem.W.findIn K (.ref C) "__class__") (some (some (.builtin "object.__class__"))) &&
  (He.eqO (PySem.W.specialIn K (.builtin "object.__class__") "__get__") (some (some (.builtin "getset_descriptor.__get__"))) && (ifTrue (PySem.W.takesIn K (.builtin "object.__class__")) && ifTrue (PySem.W.mroIn K C (.type "object"))))))))
theorem excB_ok {K : PySem.W.Frag} {C : Addr} (h : excB K C = true) : ExcC K C := by
  obtain ⟨h1, h⟩ := He.ba h
  obtain ⟨h2, h⟩ := He.ba h
  obtain ⟨h3, h⟩ := He.ba h
  obtain ⟨h4, h⟩ := He.ba h
  obtain ⟨h5, h⟩ := He.ba h
  obtain ⟨h6, h⟩ := He.ba h
  obtain ⟨h7, h8⟩ := He.ba h
  exact ⟨He.eqO_ok h1, He.eqO_ok h2, ifTrue_ok h3, h4, He.eqO_ok h5, He.eqO_ok h6, ifTrue_ok h7, ifTrue_ok h8⟩
/-- the module's name x stands for a built-in function -/
def gloB (K : PySem.W.Frag) (x : Str) (id : String) : Bool := He.eqO (PySem.W.nsIn K mainGlobals x) (some (some (.builtin id)))
theorem gloB_ok {K : PySem.W.Frag} {h : Heap} {mg : Str → Option Value} (X : K.In h) (G : h.Ns mainGlobals mg) {x : Str} {id : String} (c : gloB K x id = true) : mg x = some (.builtin id) := PySem.W.mg_of X G (He.eqO_ok c)
/-! ### the Hook -/
abbrev AlF : Type := He.AlD × Bool
def obsF (fa : List He.Fa) (fn : List He.DefD) (ex : PySem.W.Frag → Bool) (K : PySem.W.Frag) : AlF := (He.obsD fa fn K, ex K)
def obsFG (n : Nat) (fa : List He.Fa) (fn : List He.DefD) (ex : PySem.W.Frag → Bool) (g : Addr → Option Obj) : AlF := obsF fa fn ex (He.frG g (He.asD g n))
def SaysF (fa : List He.Fa) (fn : List He.DefD) (ex : PySem.W.Frag → Bool) (K : PySem.W.Frag) : Prop := He.SaysD fa fn K ∧ ex K = true
def hookF (n : Nat) (fa : List He.Fa) (fn : List He.DefD) (ex : PySem.W.Frag → Bool) : PySem.W.Hook where
  α := AlF
  obs := fun s => obsFG n fa fn ex s.heap.get?
  val := fun _ => (He.valD fn, true)
  says := fun _ h => ∃ K : PySem.W.Frag, K.In h ∧ SaysF fa fn ex K
  of := fun _ s e => ⟨_, He.frG_in, (Prod.mk.inj e).1, (Prod.mk.inj e).2⟩
  keeps := fun _ _ _ ⟨K, hK, c⟩ k => ⟨K, PySem.W.Frag.In.keeps hK k, c⟩
theorem obsF_eq {n : Nat} {fa : List He.Fa} {fn : List He.DefD} {ex : PySem.W.Frag → Bool} {g : Addr → Option Obj} {s : Shared} (h : ∀ a, g a = s.heap.get? a) : obsFG n fa fn ex g = (hookF n fa fn ex).obs s := by
  have e : g = s.heap.get? := funext h
  rw [e] <;> rfl
/-! ### defs -/
/-- a def of the module, no defaults -/
def defD (x : Str) (st : Stmt) : He.DefD := ⟨(x, none), x, x, defArgs st, defBody st, defScope st, [], []⟩
section
variable {K : PySem.W.Frag} {h : Heap} {mg : Str → Option Value} {x : Str} {st : Stmt} {fd : FuncData} {f : Addr}
theorem fun_ofD (F : FunD K x x (defArgs st) (defBody st) (defScope st) [] [] f fd) : Fun K x x st f fd := by
  obtain ⟨oc, od, dV, kV, doc, pm, an, cdv, ct, osl, rfl, lk, hcd, hD, _⟩ := F.ex
  rcases hD with ⟨_, rfl⟩ | ⟨e, _⟩
  · exact ⟨⟨oc, od, kV, doc, pm, an, cdv, ct, osl, rfl, lk, hcd⟩, F.kp⟩
  · exact absurd rfl e
theorem funAt_of {fa : List He.Fa} {fn : List He.DefD} (X : K.In h) (G : h.Ns mainGlobals mg) (c : He.SaysD fa fn K) (i j : Nat) (hd : fn[i]? = some (defD x st)) (hf : fa[j]? = some (.glo x)) (ps : List Str)
    (hb : ∀ (kV doc pm : Value) (an : Option Addr) (cdv ct : Value) (us : List Value), us.length = ps.length → bindArgs (PySem.W.fnOf x x (defArgs st) (defBody st) (defScope st) .none kV doc pm an cdv ct) ⟨us, []⟩ = pure (ps.zip us)) : FunAt K mg x st ps := by
  obtain ⟨fd, F⟩ := c.def_ i hd
  exact ⟨_, fd, He.glo_ok X G (c.fact j hf), fun_ofD F, F.bindsN hb⟩
end
/-! ### the end -/
theorem walk_ofW {l : PySem.W.OpenLaw} {n k : Nat} {q : Program} {loose : List Str} {XP : (Str → Option Value) → Heap → Prop} {YP : World → Heap → Prop} {d : DefRec} {CX : World → CXT} {x : Str} (hn : l.most = some n) (hn2 : n ≤ sizeLine)
    (hdf : d.params.defaults = []) (hr : Room k callerA)
    (F : ∀ (w : World) (mg : Str → Option Value) (f : Addr) (h : Heap), YP w h → h.Ns mainGlobals mg → mg d.name = some (.ref f) → ∃ (K : PySem.W.Frag) (fd : FuncData) (sp : Sp),
        K.In h ∧ (∀ (s : Shared) (u : Value), BindsTo s fd ⟨[u], []⟩ [(x, u)]) ∧ (∀ (H : Hp) (a : Addr) (ns : List Int), ns.length ≤ n → SqL K H a (ns.map V.int) → sp [.ref a] H (fun v _ => v = .bl true) fun _ _ _ => False) ∧
          ∀ base : Heap, K.In base → base.Ns mainGlobals mg → FnOk l.prog w K mg base (CX w) k f fd [x] sp)
    (hCX : ∀ (w : World) (H : Hp) (s : Shared) (e : Value) (s' : Shared), CX w [] H s (fun _ _ _ => False) e s' → False) : PySem.W.WalkO q loose XP YP l.row.toRowW d [] (fun f vs => PySem.call f vs) := by
  refine Att.attach_call hn hdf fun w s0 s1 mg mb f o pm cd doc a vs ns G Y ho hd hcd hmg hobj hints hlen hg => ?_
  obtain ⟨K, fd, sp, X, hb, hsp, hF⟩ := F w mg f _ Y G.T.g hmg
  refine law_call X G.T.g G.T.b G.T.builtins G.T.nolimit hg hobj hints (Nat.le_trans hlen hn2) hr hF hb (fun H _ hS => hsp H a ns hlen hS) fun H e s' => hCX w H s1 e s'
end DL
set_option Elab.async false
set_option linter.all false
set_option maxRecDepth 100000
set_option maxHeartbeats 0
namespace Go
open PySem PySem.Spec PyProof.Rows L2 DL
structure Bt (K : PySem.W.Frag) (mg : Str → Option Value) : Prop where
  b_ValueError : mg "ValueError" = none
  b_abs : mg "abs" = none
  b_bool : mg "bool" = none
  b_dict : mg "dict" = none
  b_int : mg "int" = none
  b_isinstance : mg "isinstance" = none
  b_len : mg "len" = none
  b_list : mg "list" = none
  b_max : mg "max" = none
  b_min : mg "min" = none
  b_range : mg "range" = none
  b_sorted : mg "sorted" = none
  b_tuple : mg "tuple" = none
  g_BadName : mg "BadName" = some (.ref (He.ga K "BadName"))
  g_BadNotation : mg "BadNotation" = some (.ref (He.ga K "BadNotation"))
  g_BadParts : mg "BadParts" = some (.ref (He.ga K "BadParts"))
  g_BadStretch : mg "BadStretch" = some (.ref (He.ga K "BadStretch"))
  g_Barred : mg "Barred" = some (.ref (He.ga K "Barred"))
  g_BreaksOwnRule : mg "BreaksOwnRule" = some (.ref (He.ga K "BreaksOwnRule"))
  g_Broken : mg "Broken" = some (.ref (He.ga K "Broken"))
  g_CannotStand : mg "CannotStand" = some (.ref (He.ga K "CannotStand"))
  g_Contradiction : mg "Contradiction" = some (.ref (He.ga K "Contradiction"))
  g_NoFamilies : mg "NoFamilies" = some (.ref (He.ga K "NoFamilies"))
  g_NoQuotient : mg "NoQuotient" = some (.ref (He.ga K "NoQuotient"))
  g_NoRows : mg "NoRows" = some (.ref (He.ga K "NoRows"))
  g_NotBlocked : mg "NotBlocked" = some (.ref (He.ga K "NotBlocked"))
  g_NotCourse : mg "NotCourse" = some (.ref (He.ga K "NotCourse"))
  g_NotEntered : mg "NotEntered" = some (.ref (He.ga K "NotEntered"))
  g_NotFinite : mg "NotFinite" = some (.ref (He.ga K "NotFinite"))
  g_NotFree : mg "NotFree" = some (.ref (He.ga K "NotFree"))
  g_NotLet : mg "NotLet" = some (.ref (He.ga K "NotLet"))
  g_NotStricter : mg "NotStricter" = some (.ref (He.ga K "NotStricter"))
  g_NotTimely : mg "NotTimely" = some (.ref (He.ga K "NotTimely"))
  g_NothingToUndo : mg "NothingToUndo" = some (.ref (He.ga K "NothingToUndo"))
  g_RowError : mg "RowError" = some (.ref (He.ga K "RowError"))
  g_RowTwice : mg "RowTwice" = some (.ref (He.ga K "RowTwice"))
  g_RowsDiffer : mg "RowsDiffer" = some (.ref (He.ga K "RowsDiffer"))
  g_ShortStretch : mg "ShortStretch" = some (.ref (He.ga K "ShortStretch"))
  g_SpotTwice : mg "SpotTwice" = some (.ref (He.ga K "SpotTwice"))
  g_TooLong : mg "TooLong" = some (.ref (He.ga K "TooLong"))
  g_UnknownRow : mg "UnknownRow" = some (.ref (He.ga K "UnknownRow"))
  g_Unsure : mg "Unsure" = some (.ref (He.ga K "Unsure"))
  g_ZeroPolynomial : mg "ZeroPolynomial" = some (.ref (He.ga K "ZeroPolynomial"))
  g_ZeroSum : mg "ZeroSum" = some (.ref (He.ga K "ZeroSum"))
  g_gcd : mg "gcd" = some (.builtin "math.gcd")
  e_ZeroPolynomial : ErrF K (He.ga K "ZeroPolynomial")
abbrev W0 : WX := fun _ _ _ _ => False
abbrev topS (i : Nat) : Stmt := (PySem.Challenge.pw_joinpast_k02_polynomial_division).main.body.getD i (.Pass ⟨0, 0, 0, 0⟩)
abbrev scleaned : Stmt := topS 34
abbrev Ncleaned : List Str := ["pairs", "found", "shift", "coefficient"]
abbrev Pcleaned : List Str := ["pairs"]
theorem sccleaned : FnScope Ncleaned Pcleaned (defScope scleaned) := ⟨rfl, rfl, rfl, by decide +kernel, rfl, by decide +kernel, by decide +kernel⟩
abbrev sspread : Stmt := topS 35
abbrev Nspread : List Str := ["p"]
abbrev Pspread : List Str := ["p"]
theorem scspread : FnScope Nspread Pspread (defScope sspread) := ⟨rfl, rfl, rfl, by decide +kernel, rfl, by decide +kernel, by decide +kernel⟩
abbrev sdivided : Stmt := topS 36
abbrev Ndivided : List Str := ["p", "q", "low", "steps", "at", "rest", "factor", "scale", "end", "last", "held", "shared", "grow", "shift", "coefficient", "moved"]
abbrev Pdivided : List Str := ["p", "q", "low"]
theorem scdivided : FnScope Ndivided Pdivided (defScope sdivided) := ⟨rfl, rfl, rfl, by decide +kernel, rfl, by decide +kernel, by decide +kernel⟩
abbrev spoly_divided : Stmt := topS 38
abbrev Npoly_divided : List Str := ["p", "q", "divisor"]
abbrev Ppoly_divided : List Str := ["p", "q"]
theorem scpoly_divided : FnScope Npoly_divided Ppoly_divided (defScope spoly_divided) := ⟨rfl, rfl, rfl, by decide +kernel, rfl, by decide +kernel, by decide +kernel⟩
abbrev sdivides : Stmt := topS 39
abbrev Ndivides : List Str := ["q", "p", "divisor", "dividend"]
abbrev Pdivides : List Str := ["q", "p"]
theorem scdivides : FnScope Ndivides Pdivides (defScope sdivides) := ⟨rfl, rfl, rfl, by decide +kernel, rfl, by decide +kernel, by decide +kernel⟩
abbrev s_law_whole : Stmt := topS 41
abbrev N_law_whole : List Str := ["value"]
abbrev P_law_whole : List Str := ["value"]
theorem sc_law_whole : FnScope N_law_whole P_law_whole (defScope s_law_whole) := ⟨rfl, rfl, rfl, by decide +kernel, rfl, by decide +kernel, by decide +kernel⟩
abbrev s_law_cell : Stmt := topS 42
abbrev N_law_cell : List Str := ["script", "k", "seed", "cell"]
abbrev P_law_cell : List Str := ["script", "k"]
theorem sc_law_cell : FnScope N_law_cell P_law_cell (defScope s_law_cell) := ⟨rfl, rfl, rfl, by decide +kernel, rfl, by decide +kernel, by decide +kernel⟩
abbrev s_law_digits : Stmt := topS 43
abbrev N_law_digits : List Str := ["cell", "sizes", "row", "rest", "size", "seed", "k", "twice"]
abbrev P_law_digits : List Str := ["cell", "sizes"]
theorem sc_law_digits : FnScope N_law_digits P_law_digits (defScope s_law_digits) := ⟨rfl, rfl, rfl, by decide +kernel, rfl, by decide +kernel, by decide +kernel⟩
abbrev s_law_gcd : Stmt := topS 44
abbrev N_law_gcd : List Str := ["a", "b", "one", "two", "turn", "rest"]
abbrev P_law_gcd : List Str := ["a", "b"]
theorem sc_law_gcd : FnScope N_law_gcd P_law_gcd (defScope s_law_gcd) := ⟨rfl, rfl, rfl, by decide +kernel, rfl, by decide +kernel, by decide +kernel⟩
abbrev s_law_poly : Stmt := topS 45
abbrev N_law_poly : List Str := ["pairs", "p", "pair", "told", "shift"]
abbrev P_law_poly : List Str := ["pairs"]
theorem sc_law_poly : FnScope N_law_poly P_law_poly (defScope s_law_poly) := ⟨rfl, rfl, rfl, by decide +kernel, rfl, by decide +kernel, by decide +kernel⟩
abbrev s_law_add : Stmt := topS 46
abbrev N_law_add : List Str := ["p", "q", "c", "shift"]
abbrev P_law_add : List Str := ["p", "q", "c"]
theorem sc_law_add : FnScope N_law_add P_law_add (defScope s_law_add) := ⟨rfl, rfl, rfl, by decide +kernel, rfl, by decide +kernel, by decide +kernel⟩
abbrev s_law_mul : Stmt := topS 47
abbrev N_law_mul : List Str := ["p", "q", "made", "one", "two"]
abbrev P_law_mul : List Str := ["p", "q"]
theorem sc_law_mul : FnScope N_law_mul P_law_mul (defScope s_law_mul) := ⟨rfl, rfl, rfl, by decide +kernel, rfl, by decide +kernel, by decide +kernel⟩
abbrev s_law_is_poly : Stmt := topS 48
abbrev N_law_is_poly : List Str := ["value", "pair", "k"]
abbrev P_law_is_poly : List Str := ["value"]
theorem sc_law_is_poly : FnScope N_law_is_poly P_law_is_poly (defScope s_law_is_poly) := ⟨rfl, rfl, rfl, by decide +kernel, rfl, by decide +kernel, by decide +kernel⟩
abbrev s_law_coefficient : Stmt := topS 49
abbrev N_law_coefficient : List Str := ["kind", "a", "b"]
abbrev P_law_coefficient : List Str := ["kind", "a", "b"]
theorem sc_law_coefficient : FnScope N_law_coefficient P_law_coefficient (defScope s_law_coefficient) := ⟨rfl, rfl, rfl, by decide +kernel, rfl, by decide +kernel, by decide +kernel⟩
abbrev s_law_drawn : Stmt := topS 50
abbrev N_law_drawn : List Str := ["row", "menu", "many", "wide", "pairs", "k", "digits", "shift", "factor", "pair"]
abbrev P_law_drawn : List Str := ["row"]
theorem sc_law_drawn : FnScope N_law_drawn P_law_drawn (defScope s_law_drawn) := ⟨rfl, rfl, rfl, by decide +kernel, rfl, by decide +kernel, by decide +kernel⟩
abbrev s_law_raw : Stmt := topS 51
abbrev N_law_raw : List Str := ["script", "k"]
abbrev P_law_raw : List Str := ["script", "k"]
theorem sc_law_raw : FnScope N_law_raw P_law_raw (defScope s_law_raw) := ⟨rfl, rfl, rfl, by decide +kernel, rfl, by decide +kernel, by decide +kernel⟩
abbrev s_law_passed : Stmt := topS 52
abbrev N_law_passed : List Str := ["pairs", "form", "pair", "mixed"]
abbrev P_law_passed : List Str := ["pairs", "form"]
theorem sc_law_passed : FnScope N_law_passed P_law_passed (defScope s_law_passed) := ⟨rfl, rfl, rfl, by decide +kernel, rfl, by decide +kernel, by decide +kernel⟩
abbrev s_law_small : Stmt := topS 53
abbrev N_law_small : List Str := ["row", "many", "k"]
abbrev P_law_small : List Str := ["row", "many"]
theorem sc_law_small : FnScope N_law_small P_law_small (defScope s_law_small) := ⟨rfl, rfl, rfl, by decide +kernel, rfl, by decide +kernel, by decide +kernel⟩
abbrev s_law_other_than_zero : Stmt := topS 54
abbrev N_law_other_than_zero : List Str := ["p"]
abbrev P_law_other_than_zero : List Str := ["p"]
theorem sc_law_other_than_zero : FnScope N_law_other_than_zero P_law_other_than_zero (defScope s_law_other_than_zero) := ⟨rfl, rfl, rfl, by decide +kernel, rfl, by decide +kernel, by decide +kernel⟩
abbrev s_law_kept : Stmt := topS 55
abbrev N_law_kept : List Str := ["p", "pairs", "shift"]
abbrev P_law_kept : List Str := ["p", "pairs"]
theorem sc_law_kept : FnScope N_law_kept P_law_kept (defScope s_law_kept) := ⟨rfl, rfl, rfl, by decide +kernel, rfl, by decide +kernel, by decide +kernel⟩
abbrev s_law_two : Stmt := topS 56
abbrev N_law_two : List Str := ["one", "two", "row", "factor", "f", "q", "both", "rest"]
abbrev P_law_two : List Str := ["one", "two", "row"]
theorem sc_law_two : FnScope N_law_two P_law_two (defScope s_law_two) := ⟨rfl, rfl, rfl, by decide +kernel, rfl, by decide +kernel, by decide +kernel⟩
abbrev s_law_another : Stmt := topS 57
abbrev N_law_another : List Str := ["e"]
abbrev P_law_another : List Str := ["e"]
theorem sc_law_another : FnScope N_law_another P_law_another (defScope s_law_another) := ⟨rfl, rfl, rfl, by decide +kernel, rfl, by decide +kernel, by decide +kernel⟩
abbrev s_law_refused : Stmt := topS 58
abbrev N_law_refused : List Str := ["one", "two", "seen", "e"]
abbrev P_law_refused : List Str := ["one", "two"]
theorem sc_law_refused : FnScope N_law_refused P_law_refused (defScope s_law_refused) := ⟨rfl, rfl, rfl, by decide +kernel, rfl, by decide +kernel, by decide +kernel⟩
abbrev s_law_divided : Stmt := topS 59
abbrev N_law_divided : List Str := ["told", "p", "q", "part", "pair", "product"]
abbrev P_law_divided : List Str := ["told", "p", "q"]
theorem sc_law_divided : FnScope N_law_divided P_law_divided (defScope s_law_divided) := ⟨rfl, rfl, rfl, by decide +kernel, rfl, by decide +kernel, by decide +kernel⟩
abbrev s_law_told : Stmt := topS 60
abbrev N_law_told : List Str := ["one", "two", "p", "q", "answer", "told"]
abbrev P_law_told : List Str := ["one", "two", "p", "q"]
theorem sc_law_told : FnScope N_law_told P_law_told (defScope s_law_told) := ⟨rfl, rfl, rfl, by decide +kernel, rfl, by decide +kernel, by decide +kernel⟩
abbrev slaw : Stmt := topS 61
abbrev Nlaw : List Str := ["script", "many", "sizes", "k", "row", "pairs", "one", "two", "p", "q", "told", "f", "r"]
abbrev Plaw : List Str := ["script"]
theorem sclaw : FnScope Nlaw Plaw (defScope slaw) := ⟨rfl, rfl, rfl, by decide +kernel, rfl, by decide +kernel, by decide +kernel⟩
def fnL : List He.DefD := [defD "cleaned" scleaned, defD "spread" sspread, defD "divided" sdivided, defD "poly_divided" spoly_divided, defD "divides" sdivides, defD "_law_whole" s_law_whole, defD "_law_cell" s_law_cell, defD "_law_digits" s_law_digits, defD "_law_gcd" s_law_gcd, defD "_law_poly" s_law_poly, defD "_law_add" s_law_add, defD "_law_mul" s_law_mul, defD "_law_is_poly" s_law_is_poly, defD "_law_coefficient" s_law_coefficient, defD "_law_drawn" s_law_drawn, defD "_law_raw" s_law_raw, defD "_law_passed" s_law_passed, defD "_law_small" s_law_small, defD "_law_other_than_zero" s_law_other_than_zero, defD "_law_kept" s_law_kept, defD "_law_two" s_law_two, defD "_law_another" s_law_another, defD "_law_refused" s_law_refused, defD "_law_divided" s_law_divided, defD "_law_told" s_law_told, defD "law" slaw]
def faL : List He.Fa := [.glo "cleaned", .glo "spread", .glo "divided", .glo "poly_divided", .glo "divides", .glo "_law_whole", .glo "_law_cell", .glo "_law_digits", .glo "_law_gcd", .glo "_law_poly", .glo "_law_add", .glo "_law_mul", .glo "_law_is_poly", .glo "_law_coefficient", .glo "_law_drawn", .glo "_law_raw", .glo "_law_passed", .glo "_law_small", .glo "_law_other_than_zero", .glo "_law_kept", .glo "_law_two", .glo "_law_another", .glo "_law_refused", .glo "_law_divided", .glo "_law_told", .glo "law", .free "ValueError", .free "abs", .free "bool", .free "dict", .free "int", .free "isinstance", .free "len", .free "list", .free "max", .free "min", .free "range", .free "sorted", .free "tuple", .glo "BadName", .glo "BadNotation", .glo "BadParts", .glo "BadStretch", .glo "Barred", .glo "BreaksOwnRule", .glo "Broken", .glo "CannotStand", .glo "Contradiction", .glo "NoFamilies", .glo "NoQuotient", .glo "NoRows", .glo "NotBlocked", .glo "NotCourse", .glo "NotEntered", .glo "NotFinite", .glo "NotFree", .glo "NotLet", .glo "NotStricter", .glo "NotTimely", .glo "NothingToUndo", .glo "RowError", .glo "RowTwice", .glo "RowsDiffer", .glo "ShortStretch", .glo "SpotTwice", .glo "TooLong", .glo "UnknownRow", .glo "Unsure", .glo "ZeroPolynomial", .glo "ZeroSum", .exc "ZeroPolynomial"]
def exL (K : PySem.W.Frag) : Bool := gloB K "gcd" "math.gcd" && (excB K (He.ga K "ZeroPolynomial") && (ifTrue (PySem.W.exmOne K (.ref (He.ga K "ZeroPolynomial")) (.ref (He.ga K "ZeroPolynomial"))) && (ifTrue (PySem.W.exmOne K (.ref (He.ga K "ZeroPolynomial")) (.ref (He.ga K "RowError"))) && (ifTrue (PySem.W.kitOne K (.ref (He.ga K "ZeroPolynomial")) (.ref (He.ga K "RowError"))) && (ifTrue (PySem.W.kitOne K (.ref (He.ga K "ZeroPolynomial")) (.type "ValueError")) && (ifTrue (PySem.W.kitOne K (.ref (He.ga K "ZeroPolynomial")) (.ref (He.ga K "ZeroPolynomial"))) && (ifFalse (PySem.W.kitAny K (.ref (He.ga K "ZeroPolynomial")) ((["BadName", "BadNotation", "BadParts", "BadStretch", "Barred", "BreaksOwnRule", "Broken", "CannotStand", "Contradiction", "NoFamilies", "NoQuotient", "NoRows", "NotBlocked", "NotCourse", "NotEntered", "NotFinite", "NotFree", "NotLet", "NotStricter", "NotTimely", "NothingToUndo", "RowTwice", "RowsDiffer", "ShortStretch", "SpotTwice", "TooLong", "UnknownRow", "Unsure", "ZeroSum"] : List Str).map fun x => .ref (He.ga K x))))))))))
abbrev hkL : PySem.W.Hook := hookF 4 faL fnL exL
def obL (s : PySem.W.SharedT) : AlF := obsFG 4 faL fnL exL (HandSHeadRun.getT s)
theorem obL_eq (s : PySem.W.SharedT) : obL s = hkL.obs s.abs := obsF_eq (HandSHeadRun.getT_eq s)
abbrev RL : PySem.W.OpenRow := PySem.W.OpenLaw.row PySem.Challenge.rw_joinpast_k02_polynomial_division
def looseL0 : List Str := ["RowError", "NoQuotient", "ZeroPolynomial", "ZeroSum", "NoRows", "BadName", "RowTwice", "UnknownRow", "RowsDiffer", "SpotTwice", "BadStretch", "ShortStretch", "TooLong", "CannotStand", "Broken", "NotFinite", "BadParts", "Barred", "NotCourse", "BreaksOwnRule", "NotBlocked", "Unsure", "Contradiction", "NotStricter", "NoFamilies", "NotLet", "NotFree", "NotTimely", "NotEntered", "NothingToUndo"]
def looseL1 : List Str := ["BadNotation", "cleaned", "spread", "divided", "poly_divided", "divides", "_law_whole", "_law_cell", "_law_digits", "_law_gcd", "_law_poly", "_law_add", "_law_mul", "_law_is_poly", "_law_coefficient", "_law_drawn", "_law_raw", "_law_passed", "_law_small", "_law_other_than_zero", "_law_kept", "_law_two", "_law_another", "_law_refused", "_law_divided", "_law_told"]
def looseL : List Str := looseL0 ++ looseL1
theorem runL (w : World) : HandSHeadRun.RunEqI RL (PySem.W.view RL.prog [0, 61]) hkL obL 20000 looseL w := by
  unfold HandSHeadRun.RunEqI
  kernel_rfl
end Go
set_option Elab.async false
set_option linter.all false
set_option maxRecDepth 100000
set_option maxHeartbeats 1000000
/-! Comprehensions whose elements are told item by item. -/
namespace DL
open PySem PySem.Spec PyProof.Rows L2
section
variable {K : PySem.W.Frag} {W : WX} {ρ ρ' : List Sl} {te ta tb : TE} {d x y z : D} {xs ds zs : List D} {tt tu : TT} {t u : TS} {o : Out} {i : Nat}
theorem tv_yesD : TvD K tYes ρ true := fun F0 H0 F H σ R Q q => q F H (.refl R.ex)
theorem fm_take {α : Type} {l : List (Option α)} {i : Nat} {a : Option α} (h : l[i]? = some a) : (l.take (i + 1)).filterMap id = (l.take i).filterMap id ++ a.toList := by
  rw [List.take_add_one, List.filterMap_append, h]
  cases a <;> simp
theorem lc_atI {wi : TI} {g : TG} {vs : List Nat} {ys : List (Option D)} {F0 H0 F H : Hp} {σ : L2.St} (R : RelS K F0 H0 F H σ ρ) (hw : ∀ R' : It → Hp → Prop, (∀ J A F' H', Gr F H F' H' → Src K J ds A → A F' → R' J H') → wi σ H R')
    (hs : ∀ (i : Nat) (d : D) (r : Option D), ds[i]? = some d → ys[i]? = some r → Cmp1 K g tt te vs (wipeS ρ vs) d r) (hy : ys.length = ds.length) (hl : ds.length ≤ 16777215) {Q : VK} (q : ∀ p ws F' H', Gr F H F' H' → H p = none → F' p = none → H' p = some (.lst ws) → Reps K F' ws (ys.filterMap id) → Q (.ref p) H') : tLc wi g tt te vs σ H Q :=
  hw _ fun J A F1 H1 g1 src a1 => fun Dl hD => by
    have hD0 : H Dl = none := g1.h.back hD
    have hDF1 : F1 Dl = none := g1.s.back hD
    have hD00 : H0 Dl = none := R.gr.h.back hD0
    have Rw : RelS K F0 H0 F1 H1 (L2.wipe σ vs) (wipeS ρ vs) := (R.grow g1).wipe vs
    have fr := Rw.fresh hD
    refine ⟨fun i m H' => ∃ F' acc, m = ds.length - i ∧ i ≤ ds.length ∧ Gr F H F' H' ∧ RelS K F0 H0 F' H' (L2.wipe σ vs) (wipeS ρ vs) ∧ Ex F1 F' ∧ F' Dl = none ∧ H' Dl = some (.lst acc) ∧ Reps K F' acc ((ys.take i).filterMap id),
      ⟨ds.length, F1, [], rfl, Nat.zero_le _, g1.side hD0 hDF1, Rw.side hD00 hDF1 fr, Ex.refl F1, hDF1, upd_same, .nil⟩, ?_⟩
    rintro i m H' ⟨F', acc, rfl, hi, g', R', ex, hDF, hDH, ra⟩
    have a' := src.keep _ _ a1 ex
    by_cases hlt : i < ds.length
    · refine .inr ⟨src.go i F' H' hlt a' R'.ex, fun H2 => ∃ F2 acc, Gr F H F2 H2 ∧ RelS K F0 H0 F2 H2 (L2.wipe σ vs) (wipeS ρ vs) ∧ Ex F1 F2 ∧ F2 Dl = none ∧ H2 Dl = some (.lst acc) ∧ Reps K F2 acc ((ys.take (i + 1)).filterMap id),
        fun H2 ⟨F2, acc, x1, x2, x3, x4, x5, x6⟩ => ⟨ds.length - (i + 1), by omega, F2, acc, rfl, hlt, x1, x2, x3, x4, x5, x6⟩, fun x H2 y => ?_⟩
      obtain ⟨d, hd⟩ : ∃ d, ds[i]? = some d := ⟨ds[i], List.getElem?_eq_getElem hlt⟩
      obtain ⟨ri, hri⟩ : ∃ r, ys[i]? = some r := ⟨ys[i], List.getElem?_eq_getElem (by omega)⟩
      obtain ⟨F2, g2, rx⟩ := src.yld i F' H' x H2 d hd a' R'.ex y
      obtain ⟨is, ρ1, b, tg, sub, tv, ht, hf⟩ := hs i d ri hd hri
      refine tg.2 F0 H0 F2 H2 _ x (R'.grow g2) rx _ fun σ3 R3 l3 k3 => ⟨?_, ?_⟩
      · rw [wipe_same l3 k3 sub, wipe_wipe]
      · refine tv F0 H0 F2 H2 σ3 R3 _ fun F3 H3 g3 => ?_
        have gA := (g'.trans g2).trans g3
        have RA := (R'.grow g2).grow g3
        have nD : F3 Dl = none := g3.n _ _ (g2.h _ _ hDH) rfl (g2.n _ _ hDH rfl hDF)
        cases b with
        | false =>
          show ∃ F2 acc, _
          refine ⟨F3, acc, gA, RA, (ex.trans g2.f).trans g3.f, nD, g3.h _ _ (g2.h _ _ hDH), ?_⟩
          rw [fm_take hri, hf rfl]
          simpa using (ra.mono g2.f).mono g3.f
        | true =>
          obtain ⟨yv, ey, hy⟩ := ht rfl
          show te σ3 H3 _
          refine hy F0 H0 F3 H3 σ3 (R3.grow g3) _ fun v F4 H4 g4 r4 => ?_
          have nD4 : F4 Dl = none := g4.n _ _ (g3.h _ _ (g2.h _ _ hDH)) rfl nD
          have hD4 : H4 Dl = some (.lst acc) := g4.h _ _ (g3.h _ _ (g2.h _ _ hDH))
          have rA := ((ra.mono g2.f).mono g3.f).mono g4.f
          refine ⟨acc, hD4, ?_, F4, acc ++ [v], (gA.trans g4).side hD0 nD4, (RA.grow g4).side hD00 nD4 fr, ((ex.trans g2.f).trans g3.f).trans g4.f, nD4, upd_same, ?_⟩
          · rw [rA.length, sizeLine_eq]
            have l1 := List.length_filterMap_le id (ys.take i)
            have l2 := List.length_take_le i ys
            omega
          · rw [fm_take hri, ey]
            exact rA.append (.cons r4 .nil)
    · have e : i = ds.length := by omega
      subst e
      refine .inl ⟨src.stop _ _ a' R'.ex, q Dl acc F' H' g' hD0 hDF hDH ?_⟩
      rw [← hy, List.take_length] at ra
      exact ra
theorem ev_lcI {wi : TI} {g : TG} {vs : List Nat} {ys : List (Option D)} (hw : WiD K wi ρ ds) (hs : ∀ (i : Nat) (d : D) (r : Option D), ds[i]? = some d → ys[i]? = some r → Cmp1 K g tt te vs (wipeS ρ vs) d r) (hy : ys.length = ds.length) (hl : ds.length ≤ 16777215) :
    EvL K (tLc wi g tt te vs) ρ (ys.filterMap id) := fun F0 H0 F H σ R Q q => lc_atI R (hw F0 H0 F H σ R) hs hy hl q
theorem fm_some {α β : Type} (f : α → β) : ∀ l : List α, (l.map fun a => some (f a)).filterMap id = l.map f
  | [] => rfl
  | a :: l => by rw [List.map_cons, List.filterMap_cons]; exact congrArg _ (fm_some f l)
theorem fm_if {α β : Type} (p : α → Bool) (f : α → β) : ∀ l : List α, (l.map fun a => if p a then some (f a) else none).filterMap id = (l.filter p).map f
  | [] => rfl
  | a :: l => by
    rw [List.map_cons, List.filterMap_cons]
    cases e : p a with
    | true => rw [List.filter_cons, e]; exact congrArg _ (fm_if p f l)
    | false => rw [List.filter_cons, e]; exact fm_if p f l
/-- [y(a) for a in xs] -/
theorem evl_map {α : Type} {wi : TI} {g : TG} {vs : List Nat} {e : α → D} {as : List α} (f : α → D) (hw : WiD K wi ρ (as.map e)) (h : ∀ a ∈ as, ∃ is ρ1, TgD K g is (e a) (wipeS ρ vs) ρ1 ∧ (∀ j ∈ is, j ∈ vs) ∧ EvD K te ρ1 (f a)) (hl : as.length ≤ 16777215) :
    EvL K (tLc wi g tYes te vs) ρ (as.map f) := by
  have z := ev_lcI (K := K) (tt := tYes) (te := te) (g := g) (vs := vs) (ys := as.map fun a => some (f a)) hw (fun i d r h1 h2 => by
    rw [List.getElem?_map] at h1 h2
    cases q : as[i]? with
    | none => rw [q] at h1; cases h1
    | some a =>
      rw [q] at h1 h2
      cases h1; cases h2
      obtain ⟨is, ρ1, x1, x2, x3⟩ := h a (List.mem_of_getElem? q)
      exact ⟨is, ρ1, true, x1, x2, tv_yesD, fun _ => ⟨_, rfl, x3⟩, fun z => nomatch z⟩) (by simp) (by simpa using hl)
  rw [fm_some] at z
  exact z
/-- [y(a) for a in xs if p(a)] -/
theorem evl_filter {α : Type} {wi : TI} {g : TG} {vs : List Nat} {e : α → D} {as : List α} (p : α → Bool) (f : α → D) (hw : WiD K wi ρ (as.map e)) (h : ∀ a ∈ as, ∃ is ρ1, TgD K g is (e a) (wipeS ρ vs) ρ1 ∧ (∀ j ∈ is, j ∈ vs) ∧ TvD K tt ρ1 (p a) ∧ (p a = true → EvD K te ρ1 (f a))) (hl : as.length ≤ 16777215) :
    EvL K (tLc wi g tt te vs) ρ ((as.filter p).map f) := by
  have z := ev_lcI (K := K) (tt := tt) (te := te) (g := g) (vs := vs) (ys := as.map fun a => if p a then some (f a) else none) hw (fun i d r h1 h2 => by
    rw [List.getElem?_map] at h1 h2
    cases q : as[i]? with
    | none => rw [q] at h1; cases h1
    | some a =>
      rw [q] at h1 h2
      cases h1; cases h2
      obtain ⟨is, ρ1, x1, x2, x3, x4⟩ := h a (List.mem_of_getElem? q)
      exact ⟨is, ρ1, p a, x1, x2, x3, fun z => ⟨_, by show (if p a = true then some (f a) else none) = _; rw [if_pos z], x4 z⟩, fun z => by show (if p a = true then some (f a) else none) = _; rw [if_neg (by rw [z]; simp)]⟩) (by simp) (by simpa using hl)
  rw [fm_if] at z
  exact z
/-- over the keys of the dict in slot s, which may be locked meanwhile -/
theorem evl_lcKeysI {s : Nat} {g : TG} {vs : List Nat} {ys : List (Option D)} {u0 : D} (hs : ρ[s]? = some (.d u0)) (hd : KeysD u0 ds) (hf : ∀ (i : Nat) (d : D) (r : Option D), ds[i]? = some d → ys[i]? = some r → Cmp1 K g tt te vs (wipeS ρ vs) d r) (hy : ys.length = ds.length) (hl : ds.length ≤ 16777215) :
    EvL K (tLockEA (tLc (iSeq K (tVar s)) g tt te vs)) ρ (ys.filterMap id) := fun F0 H0 F H σ R Q q => by
  obtain ⟨v, h1, rv⟩ := R.get hs
  obtain ⟨a, rfl, hk | ⟨u, ha, hm, hu, hst, hL⟩⟩ := dict_state rv hd
  · exact .inr (lc_atI R (fun R' hR => wi_locked R.ex h1 hk R' hR) hf hy hl q)
  · refine .inl ⟨a, u, R.ex _ _ ha, hm, fun ob => ?_⟩
    have hH : H a = some u := R.ex _ _ ha
    have R1 := R.lk (u := u) (l := .frz ob u) ha (hst ob) hu
    have eF : DL.lk a u (.frz ob u) F a = some (.frz ob u) := lk_at ha
    have eH : DL.lk a u (.frz ob u) H = upd H a (.frz ob u) := lk_upd hH
    rw [← eH]
    refine lc_atI R1 (fun R' hR => wi_locked R1.ex h1 (hL ob _ eF) R' hR) hf hy hl fun p ws F2 H2 g2 hp hf2 h2 r2 => ?_
    have e2 : F2 a = some (.frz ob u) := g2.f _ _ eF
    have pa : p ≠ a := fun z => by
      subst z
      rw [e2] at hf2; cases hf2
    have hpH : H p = none := by rw [eH, upd_ne pa] at hp; exact hp
    have R2 : RelS K (DL.lk a u (.frz ob u) F0) (DL.lk a u (.frz ob u) H0) F2 H2 σ ρ := R1.grow g2
    have R3 := R.unlk ha (hst ob) hu R2 e2
    have tol : Tol F2 (upd F2 a u) := fun b o h => by
      by_cases z : b = a
      · subst z; rw [e2] at h; cases h; exact ⟨u, upd_same, (hst ob).symm⟩
      · exact ⟨o, by rw [upd_ne z]; exact h, rfl⟩
    refine ⟨g2.h _ _ (by rw [eH]; exact upd_same), q p ws (upd F2 a u) (upd H2 a u) ⟨ex_unlk ha g2.f, ?_, ?_, ?_⟩ hpH (by rw [upd_ne pa]; exact hf2) (by rw [upd_ne pa]; exact h2) (r2.tol tol)⟩
    · exact ex_unlk (l := .frz ob u) hH g2.h
    · exact g2.s.updB
    · intro b o h1 t h2
      by_cases z : b = a
      · subst z; rw [ha] at h2; cases h2
      · rw [upd_ne z]
        exact g2.n b o (by rw [lk_ne z]; exact h1) t (by rw [lk_ne z]; exact h2)
theorem evl_mapKeys {α : Type} {s : Nat} {g : TG} {vs : List Nat} {e : α → D} {as : List α} {u0 : D} (f : α → D) (hs : ρ[s]? = some (.d u0)) (hd : KeysD u0 (as.map e)) (h : ∀ a ∈ as, ∃ is ρ1, TgD K g is (e a) (wipeS ρ vs) ρ1 ∧ (∀ j ∈ is, j ∈ vs) ∧ EvD K te ρ1 (f a)) (hl : as.length ≤ 16777215) :
    EvL K (tLockEA (tLc (iSeq K (tVar s)) g tYes te vs)) ρ (as.map f) := by
  have z := evl_lcKeysI (K := K) (tt := tYes) (te := te) (g := g) (vs := vs) (ys := as.map fun a => some (f a)) hs hd (fun i d r h1 h2 => by
    rw [List.getElem?_map] at h1 h2
    cases q : as[i]? with
    | none => rw [q] at h1; cases h1
    | some a =>
      rw [q] at h1 h2
      cases h1; cases h2
      obtain ⟨is, ρ1, x1, x2, x3⟩ := h a (List.mem_of_getElem? q)
      exact ⟨is, ρ1, true, x1, x2, tv_yesD, fun _ => ⟨_, rfl, x3⟩, fun z => nomatch z⟩) (by simp) (by simpa using hl)
  rw [fm_some] at z
  exact z
end
end DL
namespace DL
open PySem PySem.Spec PyProof.Rows L2
section
variable {K : PySem.W.Frag} {W : WX} {ρ : List Sl} {te : TE} {ds : List D}
theorem reps_empty {F : Hp} {vs : List V} (r : Reps K F vs ds) : vs.isEmpty = ds.isEmpty := by
  cases r <;> rfl
theorem tv_truT (h : EvD K te ρ (.tup ds)) : TvD K (tTru K te) ρ (!ds.isEmpty) := fun F0 H0 F H σ R Q q => h F0 H0 F H σ R _ fun v F1 H1 g1 r1 => by
  cases r1 with
  | tup h1 rs =>
    refine ⟨_, .inr (.inl ⟨_, SqT.of (g1.s _ _ h1), rfl⟩), ?_⟩
    rw [reps_empty rs]
    exact q F1 H1 g1
theorem tv_truL (h : EvSL K te ρ ds) : TvD K (tTru K te) ρ (!ds.isEmpty) := fun F0 H0 F H σ R Q q => h F0 H0 F H σ R _ fun p vs F1 H1 g1 s1 rs => by
  refine ⟨_, .inl ⟨_, s1, rfl⟩, ?_⟩
  rw [reps_empty rs]
  exact q F1 H1 g1
end
end DL
set_option Elab.async false
set_option linter.all false
set_option maxRecDepth 100000
set_option maxHeartbeats 1000000
/-! list(d.items()), displays of dicts with int and text keys, over plain data. -/
namespace DL
open PySem PySem.Spec PyProof.Rows L2
/-! ### the rules of syntax -/
/-- list(x.items()), x a dict, locked or not -/
def tItemsR (te : TE) : TE := fun σ H Q => te σ H fun x H1 => ∃ (d : Addr) (kvs : List (Key × V)), x = .ref d ∧ Rd H1 d (.dK kvs) ∧
  ∀ (H' : Hp) (p : Addr) (ts : List Addr), (∀ b o, H1 b = some o → H' b = some o) → H1 p = none → (∀ t ∈ ts, H1 t = none) → p ∉ ts → H' p = some (.lst (ts.map V.ref)) → Paired (fun (t : Addr) (q : Key × V) => H' t = some (.tup [kV q.1, q.2])) ts kvs → Q (.ref p) H'
section
variable {X : Cx} {e : Expr} {te : TE} {p apos cpos pos : Pos}
theorem pe_itemsR (hc : X.calm = true) (he : PE X e te) (hg : Gl X "list") (hm : X.mg "list" = none) (hv : bootBuiltins "list" = some (.type "list")) (hbase : attributeBase e "items" X.env (eval e X.env) = eval e X.env := by rfl)
    (hline : (apos.endLine == cpos.line) = true := by rfl) (hs : starEach [.Call (.Attribute e "items" apos) [] [] cpos] X.env = (false, eval (.Call (.Attribute e "items" apos) [] [] cpos) X.env) :: starEach [] X.env := by rfl) : PE X (.Call (.Name "list" p) [.Call (.Attribute e "items" apos) [] [] cpos] [] pos) (tItemsR te) := by
  refine ⟨fun pins s σ H Q I hq => wpAny_Call_Name_kw (ld_blt I hg hm hv (PyProof.Rows.callWith_type1 ?_ hs rfl))⟩
  rw [hs]
  show wpAny _ _ (spliced ((false, eval (.Call (.Attribute e "items" apos) [] [] cpos) X.env) :: backTo pos (starEach [] X.env))) _ _ s
  refine Calls.spliced_cons (wpAny_Call_method (T := "dict") (id := "dict.items") hbase rfl hline F.plainAttrs_dict F.slot_dict_items F.type_dict_items (thn (he.run pins s σ H _ I hq) fun u s1 ⟨x, H1, I1, rx, d, kvs, ex, hd, q⟩ => ?_))
  subst ex; obtain rfl : u = Value.ref d := rx
  obtain ⟨hz, hs0, vs, kv, hdo⟩ := dk_rd I1.hok hd
  obtain ⟨ep, hat⟩ := hdo.dictAt
  have lk : kvs.length = vs.length := Paired.length kv
  have I2 := I1.kept (h' := s1.heap.push { cls := .type "dict_items", data := .fields #[.ref d] }) (t' := s1.toks) fun b ob q => Heap.get?_push_of_some _ q
  refine ⟨hdo.typeIs, hdo.mapOf.noDict, ?_⟩
  show wpAny _ _ (callWith cpos (.builtin "dict.items") [.ref d] [] []) _ X.xe s1
  refine method_meetsIn F.slot_dict_items F.entry_dict_items rfl (PySem.evalArgs_none ⟨rfl, hdo.typeIs, F.args_dict_items_1 _, _, meets_dict_items (mixKind X.prog X.w) d hs0, ⟨vs, hdo⟩, Calls.spliced_nil ?_⟩)
  refine PySem.W.kdx_call (knd := mixKind X.prog X.w) (kvs := vs) (ep := ep) (I1.ok.hd hc) ⟨_, Heap.get?_push_size _ rfl, rfl, rfl⟩ (hat.push _) (by omega) fun h' tk acc c as hk hS hl hG hacc => ?_
  obtain ⟨H', k1, k2, k3, k4, k5, k6, J⟩ := LiI.items_laid (tk := tk) I2 hz kv hk hS hl hG hacc; exact ⟨.ref _, H', J, rfl, q H' _ as k1 k2 k3 k4 k5 k6⟩
end
/-! ### over plain data -/
section
variable {K : PySem.W.Frag} {W : WX} {ρ ρ' : List Sl} {te ta tb : TE} {d x y z : D} {xs ds zs : List D} {i : Nat}
theorem items_known {F H : Hp} (e : Ex F H) : ∀ {ts : List Addr} {ws : List (Key × V)} {kvs : List (Key × D)}, Paired (fun (t : Addr) (q : Key × V) => H t = some (.tup [kV q.1, q.2])) ts ws → KR K F ws kvs → ∃ F', Gr F H F' H ∧ Reps K F' (ts.map V.ref) (kvs.map fun kv => .tup [kD kv.1, kv.2])
  | _, _, _, .nil, .nil => ⟨F, .refl e, .nil⟩
  | t :: _, (k, v) :: _, (_, d) :: _, .cons h hs, .cons hr rs => by
    obtain ⟨F1, g1, r1⟩ := items_known e hs rs
    obtain ⟨F2, g2, h2⟩ := Gr.tup g1.s h
    exact ⟨F2, g1.trans g2, .cons (.tup h2 (.cons (rep_key k) (.cons (hr.mono (g1.trans g2).f) .nil))) (r1.mono g2.f)⟩
theorem evl_items {kvs : List (Key × D)} (h : EvDK K te ρ kvs) : EvL K (tItemsR te) ρ (kvs.map fun kv => .tup [kD kv.1, kv.2]) := fun F0 H0 F H σ R Q q =>
  h F0 H0 F H σ R _ fun a ws F1 H1 g1 s1 r1 => ⟨a, ws, rfl, s1, fun H' p ts k1 k2 k3 k4 k5 k6 => by
    have g2 : Gr F1 H1 F1 H' := ⟨Ex.refl _, k1, g1.s.trans k1, fun _ _ _ _ h => h⟩
    obtain ⟨F2, g3, r3⟩ := items_known (K := K) g2.s k6 r1
    have gA := g1.trans (g2.trans g3)
    have fp : F2 p = none := g3.n p _ k5 rfl (g1.s.back k2)
    exact q p _ F2 H' gA (g1.h.back k2) fp k5 r3⟩
theorem ev_dnewK : EvD K tDNewK ρ (.dk [] []) := fun F0 H0 F H σ R Q q => fun a ha => q (.ref a) (upd F a (.dK [])) (upd H a (.dK [])) (.new R.ex ha) (.dk upd_same rfl rfl .nil)
theorem ev_disp1K {k : Key} (hk : EvD K ta ρ (kD k)) (hv : EvD K tb ρ d) : EvD K (tDisp [(ta, tb)]) ρ (.dk [k] [d]) := fun F0 H0 F H σ R Q q => fun p hp => by
  have g0 : Gr F H F (upd H p (.dK [])) := .own R.ex hp
  have fp : F p = none := R.ex.back hp
  refine hk F0 H0 F _ σ (R.grow g0) _ fun x F1 H1 g1 r1 => hv F0 H0 F1 H1 σ (R.grow (g0.trans g1)) _ fun y F2 H2 g2 r2 => ?_
  have ex := rep_kD r1
  subst ex
  have gA := (g0.trans g1).trans g2
  have h2 : H2 p = some (.dK []) := (g1.trans g2).h _ _ upd_same
  have f2 : F2 p = none := (g1.trans g2).n p _ upd_same rfl fp
  refine ⟨h2, [(k, y)], rfl, by show 1 ≤ 15; decide, ?_⟩
  refine q (.ref p) (upd F2 p (.dK [(k, y)])) (upd H2 p (.dK [(k, y)])) ⟨gA.f.trans (Ex.new f2), gA.h.mut hp, gA.s.updB, fun b o h1 t h3 => ?_⟩ (.dk (vs := [y]) upd_same rfl rfl (.cons (r2.mono (Ex.new f2)) .nil))
  rw [upd_ne (ne_of_none h1 hp)]
  exact gA.n b o h1 t h3
end
/-! ### sorted(d), list(d): a dict with int and text keys, locked or not -/
section
variable {X : Cx}
theorem cr_sortK (hc : X.calm = true) (hu : X.A.units + 64 < cLine) : CallR X (.builtin "sorted") rSortK := by
  intro pins s σ H xs us Q I r h
  obtain ⟨a, ws, rfl, hd, so, q⟩ := h
  obtain ⟨u, rfl, rx⟩ := r.one
  cases rx
  obtain ⟨z, hs, vs, kv, hdo⟩ := dk_rd I.hok hd
  obtain ⟨ep, hat⟩ := hdo.dictAt
  have hl : ws.length = vs.length := Paired.length kv
  refine Calls.call_function_entry kind_sorted plain_sorted entry_sorted (args_sorted1 _) ?_
  unfold Builtin.«sorted»
  refine wpAny_bind (m := checkCount "sorted" 1 1 _) (wpAny_pure ?_)
  refine wpAny_bind (PySem.W.kdu_collect (A := X.A.in1) (PySem.W.kdl_dict (knd := mixKind X.prog X.w) (kvs := vs) (ep := ep) hs) (I.ok.hd hc) hat (by omega) fun h' tk acc hk hacc => ?_)
  have I1 : Inv X pins σ H { s with heap := h', toks := tk } := I.kept hk
  have rv : Vals ((ws.map fun kv => (kV kv.1, keyPy kv.1)).map (·.1)) acc.toList := by
    rw [List.map_map]
    have el : acc.toList.length = acc.size := by simp
    refine vals_of_at (by rw [List.length_map, el, hacc.1, hl]) fun j x w h1 h2 => ?_
    obtain ⟨k, y, hky, hi⟩ := hacc.2 j w (by rw [← Array.getElem?_toList]; exact h2)
    have e1 : (ws.map (·.1))[j]? = some k := by
      rw [KV.keys kv, List.getElem?_map, hky] <;> rfl
    have e2 : (ws.map ((·.1) ∘ fun kv : Key × V => (kV kv.1, keyPy kv.1)))[j]? = some (kV k) := by
      have e3 : (ws.map ((·.1) ∘ fun kv : Key × V => (kV kv.1, keyPy kv.1))) = (ws.map (·.1)).map kV := by rw [List.map_map] <;> rfl
      rw [e3, List.getElem?_map, e1] <;> rfl
    rw [e2] at h1
    cases h1
    exact keyIs_rel hi
  refine wpAny_bind (wpAny_newList ?_ (by rw [Array.length_toList, hacc.1]; omega))
  show wpAny _ _ _ _ _ { s with heap := h'.push (seqObj "list" acc.toList.toArray 0), toks := tk }
  refine wpAny_bind (wpAny_holding (wpAny_mono (sort_tail (X := X) (pins := pins) (σ := σ) (s := s) (Q := Q) (R := fun _ s' => EP X pins σ Q (.ref h'.objs.size) s') hu I1 rv (fun b hb => ?_) (by rw [List.map_map]; exact so) (fun b hb => ?_) (fun p hp => q p hp) (fun s' h => h) _ (by show X.A.units + 1 ≤ _; omega)) (fun _ s' h => ?_) fun _ _ h => h))
  · obtain ⟨w, _, rfl⟩ := List.mem_map.mp hb
    cases w.1 with
    | inl i => exact .int i
    | inr z => exact .str z
  · obtain ⟨w, _, rfl⟩ := List.mem_map.mp hb
    exact noL_key w.1
  · exact wpAny_pure ⟨_, rfl, h⟩
def rListRd : List V → Hp → VK → Prop := fun xs H Q => ∃ (p : Addr) (kvs : List (Key × V)), xs = [.ref p] ∧ Rd H p (.dK kvs) ∧ ∀ q, H q = none → Q (.ref q) (upd H q (.lst (kvs.map fun kv => kV kv.1)))
theorem cr_listRd (hc : X.calm = true) : CallR X (.type "list") rListRd := by
  intro pins s σ H xs us Q I r h
  obtain ⟨p, kvs, e, hk, q⟩ := h
  subst e
  obtain ⟨u, rfl, rx⟩ := r.one
  cases rx
  obtain ⟨z, lo, vs, rk, hd⟩ := dk_rd I.hok hk
  obtain ⟨ep, hat⟩ := hd.dictAt
  have hl : kvs.length = vs.length := Paired.length rk
  refine PySem.W.kdl_call (PySem.W.kdl_dict (knd := mixKind X.prog X.w) (kvs := vs) (ep := ep) lo) (I.ok.hd hc) hat (by rw [← hl]; exact z) fun h' tk acc' c' hkeep hS hacc => ?_
  refine ⟨.ref s.heap.objs.size, upd H s.heap.objs.size (.lst (kvs.map fun kv => kV kv.1)), I.laid hkeep (Nat.le_refl _) (show ObjOk X.prog X.w _ _ _ (.lst (kvs.map fun kv => kV kv.1)) from ⟨?_, acc'.toList, c', ?_, ?_⟩), rfl, q _ (I.hok.fresh (Nat.le_refl _))⟩
  · rw [List.length_map]; exact z
  · have el : acc'.toList.length = acc'.size := by simp
    refine vals_of_at (by rw [List.length_map, el, hacc.1, hl]) fun j x w h1 h2 => ?_
    obtain ⟨k, y, hky, hi⟩ := hacc.2 j w (by rw [← Array.getElem?_toList]; exact h2)
    have e1 : (kvs.map (·.1))[j]? = some k := by
      rw [KV.keys rk, List.getElem?_map, hky] <;> rfl
    have e2 : (kvs.map fun kv => kV kv.1)[j]? = some (kV k) := by
      have e3 : (kvs.map fun kv => kV kv.1) = (kvs.map (·.1)).map kV := by rw [List.map_map] <;> rfl
      rw [e3, List.getElem?_map, e1] <;> rfl
    rw [e2] at h1
    cases h1
    exact keyIs_rel hi
  · rw [Array.toArray_toList]; exact hS
end
section
variable {K : PySem.W.Frag} {W : WX} {ρ ρ' : List Sl} {te ta tb : TE} {d x y z : D} {xs ds zs : List D} {i : Nat}
theorem zipK {F : Hp} : ∀ {ws : List (Key × V)} {kvs : List (Key × D)}, KR K F ws kvs → ∃ cs : List (V × D), (ws.map fun kv => (kV kv.1, keyPy kv.1)) = cs.map (fun c => (c.1, c.2.py)) ∧ (kvs.map fun kv => kD kv.1) = cs.map (·.2) ∧ ∀ c ∈ cs, Rep K F c.1 c.2
  | _, _, .nil => ⟨[], rfl, rfl, fun _ z => nomatch z⟩
  | (k, v) :: _, (_, d) :: _, .cons hr rs => by
    obtain ⟨cs, e1, e2, e3⟩ := zipK rs
    refine ⟨(kV k, kD k) :: cs, ?_, ?_, fun c hc => ?_⟩
    · rw [List.map_cons, e1, List.map_cons, py_kD]
    · rw [List.map_cons, e2, List.map_cons]
    · rcases List.mem_cons.mp hc with e | e
      · rw [e]; exact rep_key k
      · exact e3 c e
theorem evl_sortK {kvs : List (Key × D)} (h : EvDK K te ρ kvs) (so : SortOk (kvs.map fun kv => keyPy kv.1)) : EvL K (tCB rSortK (tCons te tNil)) ρ (sortD (kvs.map fun kv => kD kv.1)) := fun F0 H0 F H σ R Q q =>
  h F0 H0 F H σ R _ fun a ws F1 H1 g1 s1 r1 => by
    have ek := r1.keys
    have e0 : (ws.map fun kv => keyPy kv.1) = kvs.map fun kv => keyPy kv.1 := by
      have : (ws.map (·.1)).map keyPy = (kvs.map (·.1)).map keyPy := by rw [ek]
      rw [List.map_map, List.map_map] at this; exact this
    obtain ⟨cs, c1, c2, c3⟩ := zipK r1
    refine ⟨a, ws, rfl, s1, by rw [e0]; exact so, fun p hp => ?_⟩
    have rr := reps_sorted c3
    rw [← c2] at rr
    rw [c1]
    exact q p _ F1 _ (g1.trans (.own g1.s hp)) (g1.h.back hp) (g1.s.back hp) upd_same rr
theorem evl_listRd {kvs : List (Key × D)} (h : EvDK K te ρ kvs) : EvL K (tCB rListRd (tCons te tNil)) ρ (kvs.map fun kv => kD kv.1) := fun F0 H0 F H σ R Q q =>
  h F0 H0 F H σ R _ fun a ws F1 H1 g1 s1 r1 => ⟨a, ws, rfl, s1, fun l hl => q l _ F1 _ (g1.trans (.own g1.s hl)) (g1.h.back hl) (g1.s.back hl) upd_same (reps_krKeys r1)⟩
end
end DL
set_option Elab.async false
set_option linter.all false
set_option maxRecDepth 100000
set_option maxHeartbeats 1000000
/-! Tuples whose object is known; dict(p) of such a tuple of pairs; dict comprehensions; range with a step of -1. -/
namespace DL
open PySem PySem.Spec PyProof.Rows L2
/-! ### the rules of syntax -/
def rTupZ (K : PySem.W.Frag) : List V → Hp → VK → Prop := fun xs H Q => ∃ p ys, xs = [.ref p] ∧ SqL K H p ys ∧ ∀ l o, GoodT o → H l = none → Q (.ref l) (upd H l (.frz o (.tup ys)))
def rDictT (K : PySem.W.Frag) : List V → Hp → VK → Prop := fun xs H Q => ∃ (a : Addr) (ob : Obj) (ps : List Addr) (kvs : List (Key × V)), xs = [.ref a] ∧ H a = some (.frz ob (.tup (ps.map V.ref))) ∧ GoodT ob ∧ Paired (fun p kv => SqT K H p [kV kv.1, kv.2]) ps kvs ∧
  ∀ p, H p = none → Q (.ref p) (upd H p (.dK (mergeK [] kvs)))
section
variable {X : Cx}
theorem call_tuple_ofZ : CallR X (.type "tuple") (rTupZ X.K) := by
  intro pins s σ H xs us Q I r h
  obtain ⟨p, ys, rfl, hq, q⟩ := h
  obtain ⟨u, rfl, rx⟩ := r.one
  cases rx
  obtain ⟨its, r', pl, hz⟩ := I.list hq
  have hlen := r'.length
  refine call_tuple_list pl.isList (fun h' kp => ?_) (by simp only [List.size_toArray] <;> omega)
  have I1 : Inv X pins σ H { s with heap := h' } := I.kept (t' := s.toks) kp
  have I2 : Inv X pins σ (upd H h'.objs.size (.frz { cls := .type "tuple", data := .seq its.toArray } (.tup ys))) { s with heap := h'.push { cls := .type "tuple", data := .seq its.toArray } } :=
    I1.laid (t' := s.toks) (fun b o e => Heap.get?_push_of_some _ e) (Nat.le_refl _) (show ObjOk X.prog X.w _ _ _ (.frz { cls := .type "tuple", data := .seq its.toArray } (.tup ys)) from ⟨Heap.get?_push_size _ rfl, hz, its, r', IsTup.new _ _⟩)
  exact ⟨.ref h'.objs.size, _, I2, rfl, q _ _ ⟨rfl, rfl, _, _, rfl⟩ (I1.hok.fresh (Nat.le_refl _))⟩
theorem pairs_ofV {pins : List (Addr × Obj)} {σ : L2.St} {H : Hp} {s : Shared} (I : Inv X pins σ H s) : ∀ {ps : List Addr} {kvs : List (Key × V)}, Paired (fun p kv => SqT X.K H p [kV kv.1, kv.2]) ps kvs →
    ∃ (prs : List (Key × Value)) (us : List (Value × Value)), KV kvs prs ∧ prs.length = ps.length ∧ us.length = ps.length ∧ ∀ (j : Nat) (k v : Value), us[j]? = some (k, v) → ∃ (b : Addr) (q : Key), ps[j]? = some b ∧ prs[j]? = some (q, v) ∧ IsTup s.heap b #[k, v] ∧ keyIs q k = true
  | _, _, .nil => ⟨[], [], .nil, rfl, rfl, fun j k v e => by simp at e⟩
  | _, _, .cons (a := p) (b := kv) h t => by
    obtain ⟨prs, us, r, hl, hu, hp⟩ := pairs_ofV I t
    obtain ⟨its, rv, ht, _⟩ := I.tuple h
    obtain ⟨u, y, ei, ru, ry⟩ := vals2 rv
    subst ei
    refine ⟨(kv.1, y) :: prs, (u, y) :: us, .cons ⟨rfl, ry⟩ r, by rw [List.length_cons, List.length_cons, hl], by rw [List.length_cons, List.length_cons, hu], fun j k v e => ?_⟩
    cases j with
    | zero =>
      have e' : (u, y) = (k, v) := Option.some.inj e
      cases e'
      exact ⟨p, kv.1, rfl, rfl, ht, kV_is (P := X.prog) (w := X.w) ru⟩
    | succ j =>
      obtain ⟨b, u', e1, e2, e3⟩ := hp j k v (by simpa using e)
      exact ⟨b, u', by simpa using e1, by simpa using e2, e3⟩
theorem call_dictT (hcalm : X.calm = true) : CallR X (.type "dict") (rDictT X.K) := by
  intro pins s σ H xs us Q I r q
  obtain ⟨a, ob, ps, kvs, rfl, hq, hg, hp, q⟩ := q
  obtain ⟨u, rfl, rx⟩ := r.one
  cases rx
  obtain ⟨hget, hz, its, rv, o', ho', hc', n', hd'⟩ := (show ObjOk X.prog X.w H s.heap a (.frz ob (.tup (ps.map V.ref))) from I.hok a _ hq)
  rw [hget] at ho'
  cases ho'
  have ei := refs_at rv
  subst ei
  rw [List.length_map] at hz
  obtain ⟨prs, vs, rel, hl, hu, hpr⟩ := pairs_ofV I hp
  refine call_dict_pairs (knd := mixKind X.prog X.w) (kvs := prs) (PairArg.tuple a ((ps.map Value.ref).toArray) (fun j => ps.getD j 0) vs) (I.ok.hd hcalm) ⟨⟨ob, n', hget, hc', hg.2.1, hd'⟩, by simp [hu], fun j k v e => ?_⟩ ⟨by rw [hl, hu], fun i key v e => ?_⟩ (by rw [hu]; exact hz) fun h' tk hd' k => ?_
  · obtain ⟨b, q', e1, e2, e3, e4⟩ := hpr j k v e
    refine ⟨by simp [e1], .inl ?_⟩
    have : ps.getD j 0 = b := by rw [List.getD_eq_getElem?_getD, e1]; rfl
    show s.heap.IsTuple (ps.getD j 0) #[k, v]
    rw [this]; exact e3
  · obtain ⟨b, q', e1, e2, e3, e4⟩ := hpr i key v e
    exact ⟨q', e2, e4⟩
  · have hm : (s.heap.objs.size == sysModules) = false := beq_eq_false_iff_ne.mpr (Nat.ne_of_gt I.big)
    have hlen : (mergeK [] kvs).length ≤ sizeLine := by
      refine Nat.le_trans (length_mergeK kvs []) ?_
      rw [List.length_nil, Nat.zero_add, rel.length, hl]
      exact hz
    exact ⟨.ref s.heap.objs.size, upd H s.heap.objs.size (.dK (mergeK [] kvs)), I.laid (t' := tk) (fun b o e => k b o (by simp) e) (Nat.le_refl _) (show ObjOk X.prog X.w _ _ _ (.dK (mergeK [] kvs)) from ⟨hlen, hm, merged [] prs, KV.merge rel .nil, hd'⟩), rfl, q _ (I.hok.fresh (Nat.le_refl _))⟩
end
/-! ### over plain data -/
section
variable {K : PySem.W.Frag} {W : WX} {ρ ρ' : List Sl} {te ta tb tk tv : TE} {d x y z : D} {xs ds zs : List D} {i : Nat}
theorem ev_tupZL (h : EvSL K te ρ ds) : EvD K (tCB (rTupZ K) (tCons te tNil)) ρ (.tupZ ds) := ev_cbSL h fun F H e p vs s r Q q =>
  ⟨p, vs, rfl, s, fun l o g hl => q _ (upd F l (.frz o (.tup vs))) _ (.new e hl) (.tupZ upd_same g (r.mono (Ex.new (e.back hl))))⟩
theorem src_tupZ {a : Addr} {ob : Obj} {vs : List V} : Src K (Itt K a) ds (fun F => F a = some (.frz ob (.tup vs)) ∧ Reps K F vs ds) where
  keep := fun F F' h e => ⟨e _ _ h.1, h.2.mono e⟩
  go := fun i F H hi h e => walk_tup.goes i H (by rw [h.2.length]; exact hi) (.inl (.inr ⟨_, e _ _ h.1⟩))
  stop := fun F H h e => by rw [← h.2.length]; exact walk_tup.stops H (.inl (.inr ⟨_, e _ _ h.1⟩))
  yld := fun i F H x H' d hd h e y => by
    have hi : i < vs.length := by rw [h.2.length]; exact (List.getElem?_eq_some_iff.mp hd).1
    obtain ⟨rfl, hx⟩ := walk_tup.yields i H x H' hi (.inl (.inr ⟨_, e _ _ h.1⟩)) y
    obtain ⟨d', h1, h2⟩ := h.2.get hx
    rw [hd] at h1; cases h1
    exact ⟨F, .refl e, h2⟩
theorem wi_tupZ (h : EvD K te ρ (.tupZ ds)) : WiD K (iTup K te) ρ ds := fun F0 H0 F H σ R Q q => h F0 H0 F H σ R _ fun v F1 H1 g1 r1 => by
  cases r1 with
  | tupZ h1 _ rs => exact ⟨_, rfl, ⟨_, .inl (.inr ⟨_, g1.s _ _ h1⟩)⟩, q _ _ F1 H1 g1 src_tupZ ⟨h1, rs⟩⟩
theorem tg_tupZ {gs : TGs} {is : List Nat} {n : Nat} (h : TgsD K gs is ds ρ ρ') (hn : ds.length = n) : TgD K (gTup K n gs) is (.tupZ ds) ρ ρ' := ⟨h.1, fun F0 H0 F H σ v R r Q q => by
  cases r with
  | tupZ h1 _ rs => exact ⟨_, _, rfl, .inl (.inr ⟨_, R.ex _ _ h1⟩), by rw [rs.length]; exact hn, h.2 F0 H0 F H σ _ R rs Q q⟩⟩
theorem tg_seqZ {gs : TGs} {is : List Nat} {n : Nat} (h : TgsD K gs is ds ρ ρ') (hn : ds.length = n) : TgD K (gSeqA K n gs) is (.tupZ ds) ρ ρ' := ⟨h.1, fun F0 H0 F H σ v R r Q q => .inl ((tg_tupZ h hn).2 F0 H0 F H σ v R r Q q)⟩
theorem tv_truZ (h : EvD K te ρ (.tupZ ds)) : TvD K (tTru K te) ρ (!ds.isEmpty) := fun F0 H0 F H σ R Q q => h F0 H0 F H σ R _ fun v F1 H1 g1 r1 => by
  cases r1 with
  | tupZ h1 _ rs =>
    refine ⟨_, .inr (.inl ⟨_, .inl (.inr ⟨_, g1.s _ _ h1⟩), rfl⟩), ?_⟩
    rw [reps_empty rs]
    exact q F1 H1 g1
/-- a new dict -/
def EvDN (K : PySem.W.Frag) (te : TE) (ρ : List Sl) (kvs : List (Key × D)) : Prop := ∀ (F0 H0 F H : Hp) (σ : L2.St), RelS K F0 H0 F H σ ρ → ∀ Q : VK,
  (∀ p ws F' H', Gr F H F' H' → H p = none → F' p = none → H' p = some (.dK ws) → (kvs.map (·.1)).Nodup → KR K F' ws kvs → Q (.ref p) H') → te σ H Q
theorem sv_asgDN {kvs : List (Key × D)} (h : EvDN K te ρ kvs) : SvD K W (tAsg te (gName i)) ρ (.nx (ρ.set i (.ok kvs))) := fun E F0 H0 F H σ R p =>
  h F0 H0 F H σ R _ fun a ws F1 H1 g1 hp hf h1 nd r1 => p _ F1 H1 g1.f ((R.grow g1).setOwn i rfl ⟨R.gr.h.back hp, hf, ws, h1, nd, r1⟩ fun j y h2 h3 _ h4 => R.fresh hp j y h2 h3 h4)
theorem gput_last {κ β : Type} [DecidableEq κ] {k : κ} {v : β} : ∀ {a : List (κ × β)}, k ∉ a.map (·.1) → gput a k v = a ++ [(k, v)]
  | [], _ => rfl
  | p :: r, h => by
    rw [List.map_cons, List.mem_cons, not_or] at h
    unfold gput
    rw [if_neg (fun e => h.1 e.symm), gput_last h.2]; rfl
theorem merge_nodup : ∀ (ws acc : List (Key × V)), ((acc ++ ws).map (·.1)).Nodup → mergeK acc ws = acc ++ ws
  | [], acc, _ => by rw [List.append_nil]; rfl
  | w :: ws, acc, nd => by
    have e1 : acc ++ w :: ws = (acc ++ [w]) ++ ws := by rw [List.append_assoc]; rfl
    have nd0 := nd
    rw [List.map_append, List.map_cons] at nd0
    have na := (List.nodup_append.mp nd0).1
    have nn : w.1 ∉ acc.map (·.1) := fun z => (List.nodup_append.mp nd0).2.2 _ z _ List.mem_cons_self rfl
    show mergeK (putK acc w.1 w.2) ws = _
    rw [putK_eq w.1 w.2 acc na, gput_last nn, merge_nodup ws (acc ++ [w]) (by rw [← e1]; exact nd), ← e1]
theorem reps_pairs {F H : Hp} (e : Ex F H) : ∀ {kvs : List (Key × D)} {vs : List V}, Reps K F vs (kvs.map fun kv => .tup [kD kv.1, kv.2]) → ∃ (ps : List Addr) (ws : List (Key × V)), vs = ps.map V.ref ∧ KR K F ws kvs ∧ Paired (fun p kv => SqT K H p [kV kv.1, kv.2]) ps ws
  | [], _, .nil => ⟨[], [], rfl, .nil, .nil⟩
  | (k, d) :: kvs, _, .cons h rs => by
    obtain ⟨ps, ws, e1, e2, e3⟩ := reps_pairs e rs
    cases h with
    | tup h r =>
      cases r with
      | cons rk r =>
        cases r with
        | cons rd r =>
          cases r
          have ek := rep_kD rk
          subst ek
          exact ⟨_ :: ps, (k, _) :: ws, by rw [e1]; rfl, .cons rd e2, .cons (SqT.of (e _ _ h)) e3⟩
theorem evdn_dict {kvs : List (Key × D)} (h : EvD K te ρ (.tupZ (kvs.map fun kv => .tup [kD kv.1, kv.2]))) (nd : (kvs.map (·.1)).Nodup) : EvDN K (tCB (rDictT K) (tCons te tNil)) ρ kvs := fun F0 H0 F H σ R Q q =>
  h F0 H0 F H σ R _ fun v F1 H1 g1 r1 => by
    cases r1 with
    | tupZ h1 g rs =>
      obtain ⟨ps, ws, e1, e2, e3⟩ := reps_pairs g1.s rs
      subst e1
      refine ⟨_, _, ps, ws, rfl, g1.s _ _ h1, g, e3, fun p hp => ?_⟩
      rw [merge_nodup ws [] (by rw [List.nil_append, e2.keys]; exact nd), List.nil_append]
      exact q p ws F1 _ (g1.trans (.own g1.s hp)) (g1.h.back hp) (g1.s.back hp) upd_same nd e2
theorem wi_down {ta : TA} {i j : Int} (h : AvD K ta ρ [.int i, .int j, .int (-1)]) (h1 : -(2 ^ 62) ≤ i ∧ i < 2 ^ 62) (h2 : -(2 ^ 62) ≤ j ∧ j < 2 ^ 62) : WiD K (iRng3 ta) ρ ((List.range (i - j).toNat).map fun (n : Nat) => D.int (i + (n : Int) * (-1))) := fun F0 H0 F H σ R Q q => h F0 H0 F H σ R _ fun vs F1 H1 g1 r1 => by
  cases r1 with
  | cons a r =>
    cases a
    cases r with
    | cons b r =>
      cases b
      cases r with
      | cons c r =>
        cases c; cases r
        exact ⟨i, j, -1, _, rfl, RgC.neg h1.1 h1.2 h2.1 h2.2, q _ _ F1 H1 g1 src_rangeC trivial⟩
end
end DL
set_option Elab.async false
set_option linter.all false
set_option maxRecDepth 100000
set_option maxHeartbeats 1000000
/-! Dict comprehensions over the keys of a dict. -/
namespace DL
open PySem PySem.Spec PyProof.Rows L2
section
variable {K : PySem.W.Frag} {W : WX} {ρ ρ' : List Sl} {te ta tb tk tv : TE} {d x y z : D} {xs ds zs : List D} {i : Nat}
theorem KR.append {F : Hp} {k : Key} {v : V} {d : D} (h : Rep K F v d) : ∀ {ws : List (Key × V)} {kvs : List (Key × D)}, KR K F ws kvs → KR K F (ws ++ [(k, v)]) (kvs ++ [(k, d)])
  | _, _, .nil => .cons h .nil
  | _, _, .cons h' r => .cons h' (KR.append h r)
theorem take_more {α : Type} {l : List α} {i : Nat} {a : α} (h : l[i]? = some a) : l.take (i + 1) = l.take i ++ [a] := by
  rw [List.take_add_one, h]; rfl
theorem dc_at {wi : TI} {g : TG} {vs : List Nat} {ys : List (Key × D)} {F0 H0 F H : Hp} {σ : L2.St} (R : RelS K F0 H0 F H σ ρ) (hw : ∀ R' : It → Hp → Prop, (∀ J A F' H', Gr F H F' H' → Src K J ds A → A F' → R' J H') → wi σ H R')
    (hs : ∀ (i : Nat) (d : D) (r : Key × D), ds[i]? = some d → ys[i]? = some r → ∃ is ρ1, TgD K g is d (wipeS ρ vs) ρ1 ∧ (∀ j ∈ is, j ∈ vs) ∧ EvD K tk ρ1 (kD r.1) ∧ EvD K tv ρ1 r.2) (hy : ys.length = ds.length) (nd : (ys.map (·.1)).Nodup) (hl : ds.length ≤ 16777215) {Q : VK}
    (q : ∀ p ws F' H', Gr F H F' H' → H p = none → F' p = none → H' p = some (.dK ws) → KR K F' ws ys → Q (.ref p) H') : tDc wi g tYes tk tv vs σ H Q :=
  hw _ fun J A F1 H1 g1 src a1 => fun Dl hD => by
    have hD0 : H Dl = none := g1.h.back hD
    have hDF1 : F1 Dl = none := g1.s.back hD
    have hD00 : H0 Dl = none := R.gr.h.back hD0
    have Rw : RelS K F0 H0 F1 H1 (L2.wipe σ vs) (wipeS ρ vs) := (R.grow g1).wipe vs
    have fr := Rw.fresh hD
    refine ⟨fun i m H' => ∃ F' acc, m = ds.length - i ∧ i ≤ ds.length ∧ Gr F H F' H' ∧ RelS K F0 H0 F' H' (L2.wipe σ vs) (wipeS ρ vs) ∧ Ex F1 F' ∧ F' Dl = none ∧ H' Dl = some (.dK acc) ∧ KR K F' acc (ys.take i),
      ⟨ds.length, F1, [], rfl, Nat.zero_le _, g1.side hD0 hDF1, Rw.side hD00 hDF1 fr, Ex.refl F1, hDF1, upd_same, .nil⟩, ?_⟩
    rintro i m H' ⟨F', acc, rfl, hi, g', R', ex, hDF, hDH, ra⟩
    have a' := src.keep _ _ a1 ex
    by_cases hlt : i < ds.length
    · refine .inr ⟨src.go i F' H' hlt a' R'.ex, fun H2 => ∃ F2 acc, Gr F H F2 H2 ∧ RelS K F0 H0 F2 H2 (L2.wipe σ vs) (wipeS ρ vs) ∧ Ex F1 F2 ∧ F2 Dl = none ∧ H2 Dl = some (.dK acc) ∧ KR K F2 acc (ys.take (i + 1)),
        fun H2 ⟨F2, acc, x1, x2, x3, x4, x5, x6⟩ => ⟨ds.length - (i + 1), by omega, F2, acc, rfl, hlt, x1, x2, x3, x4, x5, x6⟩, fun x H2 y => ?_⟩
      obtain ⟨d, hd⟩ : ∃ d, ds[i]? = some d := ⟨ds[i], List.getElem?_eq_getElem hlt⟩
      obtain ⟨ri, hri⟩ : ∃ r, ys[i]? = some r := ⟨ys[i], List.getElem?_eq_getElem (by omega)⟩
      obtain ⟨F2, g2, rx⟩ := src.yld i F' H' x H2 d hd a' R'.ex y
      obtain ⟨is, ρ1, tg, sub, hk, hv⟩ := hs i d ri hd hri
      refine tg.2 F0 H0 F2 H2 _ x (R'.grow g2) rx _ fun σ3 R3 l3 k3 => ⟨?_, ?_⟩
      · rw [wipe_same l3 k3 sub, wipe_wipe]
      · show tk σ3 H2 _
        have gA := g'.trans g2
        refine hk F0 H0 F2 H2 σ3 R3 _ fun kk F3 H3 g3 r3 => hv F0 H0 F3 H3 σ3 (R3.grow g3) _ fun v F4 H4 g4 r4 => ?_
        have ek := rep_kD r3
        subst ek
        have nD4 : F4 Dl = none := g4.n _ _ (g3.h _ _ (g2.h _ _ hDH)) rfl (g3.n _ _ (g2.h _ _ hDH) rfl (g2.n _ _ hDH rfl hDF))
        have hD4 : H4 Dl = some (.dK acc) := g4.h _ _ (g3.h _ _ (g2.h _ _ hDH))
        have rA := ((ra.mono g2.f).mono g3.f).mono g4.f
        have nd' : ((ys.take i ++ [ri]).map (·.1)).Nodup := by
          rw [← take_more hri]
          exact nd.sublist (List.Sublist.map _ (List.take_sublist _ _))
        rw [List.map_append] at nd'
        have na : (acc.map (·.1)).Nodup := by rw [rA.keys]; exact (List.nodup_append.mp nd').1
        have nn : ri.1 ∉ acc.map (·.1) := fun z => by
          rw [rA.keys] at z
          exact (List.nodup_append.mp nd').2.2 _ z _ List.mem_cons_self rfl
        refine ⟨acc, ri.1, rfl, hD4, ?_, F4, acc ++ [(ri.1, v)], ((gA.trans g3).trans g4).side hD0 nD4, (((R'.grow g2).grow g3).grow g4).side hD00 nD4 fr, ((ex.trans g2.f).trans g3.f).trans g4.f, nD4, ?_, ?_⟩
        · rw [rA.length, sizeLine_eq]
          have l2 := List.length_take_le i ys
          omega
        · rw [upd_same, putK_eq _ _ _ na, gput_last nn]
        · rw [take_more hri]
          exact KR.append r4 rA
    · have e : i = ds.length := by omega
      subst e
      refine .inl ⟨src.stop _ _ a' R'.ex, q Dl acc F' H' g' hD0 hDF hDH ?_⟩
      rw [← hy, List.take_length] at ra
      exact ra
/-- over the keys of the dict in slot s -/
theorem evdn_dcKeys {s : Nat} {g : TG} {vs : List Nat} {ys : List (Key × D)} {u0 : D} (hs : ρ[s]? = some (.d u0)) (hd : KeysD u0 ds) (hf : ∀ (i : Nat) (d : D) (r : Key × D), ds[i]? = some d → ys[i]? = some r → ∃ is ρ1, TgD K g is d (wipeS ρ vs) ρ1 ∧ (∀ j ∈ is, j ∈ vs) ∧ EvD K tk ρ1 (kD r.1) ∧ EvD K tv ρ1 r.2)
    (hy : ys.length = ds.length) (nd : (ys.map (·.1)).Nodup) (hl : ds.length ≤ 16777215) : EvDN K (tLockEA (tDc (iSeq K (tVar s)) g tYes tk tv vs)) ρ ys := fun F0 H0 F H σ R Q q => by
  obtain ⟨v, h1, rv⟩ := R.get hs
  obtain ⟨a, rfl, hk | ⟨u, ha, hm, hu, hst, hL⟩⟩ := dict_state rv hd
  · exact .inr (dc_at R (fun R' hR => wi_locked R.ex h1 hk R' hR) hf hy nd hl fun p ws F' H' g1 hp hf1 h1 r1 => q p ws F' H' g1 hp hf1 h1 nd r1)
  · refine .inl ⟨a, u, R.ex _ _ ha, hm, fun ob => ?_⟩
    have hH : H a = some u := R.ex _ _ ha
    have R1 := R.lk (u := u) (l := .frz ob u) ha (hst ob) hu
    have eF : DL.lk a u (.frz ob u) F a = some (.frz ob u) := lk_at ha
    have eH : DL.lk a u (.frz ob u) H = upd H a (.frz ob u) := lk_upd hH
    rw [← eH]
    refine dc_at R1 (fun R' hR => wi_locked R1.ex h1 (hL ob _ eF) R' hR) hf hy nd hl fun p ws F2 H2 g2 hp hf2 h2 r2 => ?_
    have e2 : F2 a = some (.frz ob u) := g2.f _ _ eF
    have pa : p ≠ a := fun z => by
      subst z
      rw [e2] at hf2; cases hf2
    have hpH : H p = none := by rw [eH, upd_ne pa] at hp; exact hp
    have R2 : RelS K (DL.lk a u (.frz ob u) F0) (DL.lk a u (.frz ob u) H0) F2 H2 σ ρ := R1.grow g2
    have tol : Tol F2 (upd F2 a u) := fun b o h => by
      by_cases z : b = a
      · subst z; rw [e2] at h; cases h; exact ⟨u, upd_same, (hst ob).symm⟩
      · exact ⟨o, by rw [upd_ne z]; exact h, rfl⟩
    refine ⟨g2.h _ _ (by rw [eH]; exact upd_same), q p ws (upd F2 a u) (upd H2 a u) ⟨ex_unlk ha g2.f, ?_, ?_, ?_⟩ hpH (by rw [upd_ne pa]; exact hf2) (by rw [upd_ne pa]; exact h2) nd (r2.tol tol)⟩
    · exact ex_unlk (l := .frz ob u) hH g2.h
    · exact g2.s.updB
    · intro b o h1 t h2
      by_cases z : b = a
      · subst z; rw [ha] at h2; cases h2
      · rw [upd_ne z]
        exact g2.n b o (by rw [lk_ne z]; exact h1) t (by rw [lk_ne z]; exact h2)
theorem evdn_map {α : Type} {s : Nat} {g : TG} {vs : List Nat} {as : List α} {u0 : D} (ek : α → D) (fk : α → Key) (fv : α → D) (hs : ρ[s]? = some (.d u0)) (hd : KeysD u0 (as.map ek)) (nd : (as.map fk).Nodup) (h : ∀ a ∈ as, ∃ is ρ1, TgD K g is (ek a) (wipeS ρ vs) ρ1 ∧ (∀ j ∈ is, j ∈ vs) ∧ EvD K tk ρ1 (kD (fk a)) ∧ EvD K tv ρ1 (fv a)) (hl : as.length ≤ 16777215) :
    EvDN K (tLockEA (tDc (iSeq K (tVar s)) g tYes tk tv vs)) ρ (as.map fun a => (fk a, fv a)) :=
  evdn_dcKeys (ys := as.map fun a => (fk a, fv a)) hs hd (fun i d r h1 h2 => by
    rw [List.getElem?_map] at h1 h2
    cases q : as[i]? with
    | none => rw [q] at h1; cases h1
    | some a =>
      rw [q] at h1 h2
      cases h1; cases h2
      exact h a (List.mem_of_getElem? q)) (by simp) (by rw [List.map_map]; exact nd) (by simpa using hl)
end
section
variable {K : PySem.W.Frag} {ρ : List Sl} {te : TE} {ds : List D}
theorem ev_notT (h : EvST K te ρ ds) : EvD K (tNotT K te) ρ (.bl ds.isEmpty) := fun F0 H0 F H σ R Q q => h F0 H0 F H σ R _ fun p vs F1 H1 g1 s1 rs => by
  refine ⟨_, .inr (.inl ⟨_, s1, rfl⟩), ?_⟩
  rw [reps_empty rs, Bool.not_not]
  exact q _ F1 H1 g1 (.bl _)
end
/-! ### d == e, dicts with int values -/
def rEqRd : R2 := fun x y H Q => ∃ a b kvs, x = .ref a ∧ y = .ref b ∧ Rd H a (.dK kvs) ∧ Rd H b (.dK kvs) ∧ (kvs.map (·.1)).Nodup ∧ (∀ p ∈ kvs, flatB p.2 = true) ∧ Q (.bl true) H
def rEqX (K : PySem.W.Frag) : R2 := fun x y H Q => rEqD K x y H Q ∨ rEqRd x y H Q
theorem op_eqRd {X : Cx} (hu : X.A.units + 64 < cLine) : OpR X (compareOp .Eq) rEqRd := by
  intro pins s σ H x y v u Q I rx ry h
  obtain ⟨a, b, kvs, rfl, rfl, ea, eb, nd, fl, q⟩ := h
  obtain rfl : v = Value.ref a := rx
  obtain rfl : u = Value.ref b := ry
  obtain ⟨_, ya, va, ra, da⟩ := dk_rd I.hok ea
  obtain ⟨_, yb, vb, rb, db⟩ := dk_rd I.hok eb
  have hl : va.length = vb.length := ra.length.symm.trans rb.length
  exact PySem.W.keq_eq (knd := mixKind X.prog X.w) (r := true) ya yb da db (by omega) (fun _ => hits_all rb ra fun p hp => ⟨val_nodup nd p hp, fl p hp⟩) (fin_bl I q (by simp [hl]))
theorem op_eqX {X : Cx} (hu : X.A.units + 64 < cLine) : OpR X (compareOp .Eq) (rEqX X.K) := (op_eqD hu).or (op_eqRd hu)
section
variable {K : PySem.W.Frag} {ρ : List Sl} {te ta tb : TE} {x y : D}
theorem kr_ints {F : Hp} : ∀ {ws : List (Key × V)} {ks : List (Key × Int)}, KR K F ws (ks.map fun p => (p.1, D.int p.2)) → ws = ks.map fun p => (p.1, V.int p.2)
  | ws, [], h => by
    cases h; rfl
  | ws, (k', i) :: ks, h => by
    have h' : KR K F ws ((k', D.int i) :: ks.map fun p => (p.1, D.int p.2)) := h
    cases h' with
    | cons h r =>
      cases h
      rw [kr_ints r]; rfl
theorem ev_eqXD (ha : EvD K ta ρ x) (hb : EvD K tb ρ y) (hx : x.ok = true) (hy : y.ok = true) : EvD K (tOp (rEqX K) ta tb) ρ (.bl (PyData.eqv x.py y.py)) := ev_op ha hb fun F H e v u a b Q q => .inl (rv_eqD hx hy F H e v u a b Q q)
theorem ev_eqXK {ks : List (Key × Int)} (nd : (ks.map (·.1)).Nodup) (ha : EvDK K ta ρ (ks.map fun p => (p.1, D.int p.2))) (hb : EvDK K tb ρ (ks.map fun p => (p.1, D.int p.2))) : EvD K (tOp (rEqX K) ta tb) ρ (.bl true) := fun F0 H0 F H σ R Q q =>
  ha F0 H0 F H σ R _ fun a ws F1 H1 g1 s1 r1 => hb F0 H0 F1 H1 σ (R.grow g1) _ fun b ws2 F2 H2 g2 s2 r2 => by
    have e1 := kr_ints r1
    have e2 := kr_ints r2
    subst e1; subst e2
    refine .inr ⟨a, b, _, rfl, rfl, g2.h.rd s1, s2, by rw [List.map_map]; exact nd, fun p hp => ?_, q _ F2 H2 (g1.trans g2) (.bl _)⟩
    obtain ⟨p', _, rfl⟩ := List.mem_map.mp hp
    rfl
end
end DL
set_option Elab.async false
set_option linter.all false
set_option maxRecDepth 100000
set_option maxHeartbeats 1000000
/-! What the helpers that every law has come to: a cell of the script, its digits. -/
namespace Go
open PySem PySem.Spec PyProof.Rows L2 DL
def fr_law_whole (ds : List D) (r : Res) : Prop := ∃ d, d.tyOk = true ∧ ds = [d] ∧ r = .ok (.bl (isInt d))
/-! ### a cell -/
def seedM (ns : List Int) : Int := ns.foldl (fun s c => (s * 31 + c % 1000003) % 1000003) 17
def cellM (ns : List Int) (k : Nat) : Int := match ns[k]? with
  | some c => c
  | none => (seedM ns + 7) * ((k : Int) + 3) * 69621 % 2147483647
def fr_law_cell (ds : List D) (r : Res) : Prop := ∃ (ns : List Int) (k : Nat), k ≤ 100000 ∧ ds = [.scr ns, .int (k : Int)] ∧ r = .ok (.int (cellM ns k))
theorem seed_bound (ns : List Int) : 0 ≤ seedM ns ∧ seedM ns < 1000003 := by
  unfold seedM
  have : ∀ (l : List Int) (s : Int), (0 ≤ s ∧ s < 1000003) → 0 ≤ l.foldl (fun s c => (s * 31 + c % 1000003) % 1000003) s ∧ l.foldl (fun s c => (s * 31 + c % 1000003) % 1000003) s < 1000003 := by
    intro l
    induction l with
    | nil => intro s h; exact h
    | cons c r ih =>
      intro s h
      rw [List.foldl_cons]
      exact ih _ (by omega)
  exact this ns 17 (by omega)
/-! ### digits -/
/-- the digits of a great number, to mixed bases -/
def digA : Int → List Int → List Int
  | _, [] => []
  | rest, s :: ss => rest % s :: digA (rest / s) ss
/-- the digits that a small number draws -/
def nextS (seed : Int) (k : Nat) : Int := (seed * 48271 + 974711 * (k : Int) + 12345) % 2147483647
def drawS (seed : Int) : Int := seed * (seed / 65537 + 3) % 2147483629
def digB : Int → Nat → List Int → List Int
  | _, _, [] => []
  | seed, k, s :: ss => drawS (nextS seed k) / 19 % s :: digB (nextS seed k) (k + 1) ss
def digM (cell : Int) (sizes : List Int) : List Int := if 1000000000000000000 ≤ cell then digA (cell - 1000000000000000000) sizes else digB (cell % 2147483629) 0 sizes
def fr_law_digits (ds : List D) (r : Res) : Prop := ∃ (c : Int) (ss : List Int), (∀ s ∈ ss, 0 < s ∧ s < 1073741824) ∧ ss.length ≤ 5000 ∧ ds = [.int c, .lst (ss.map D.int)] ∧ r = .ok (.lst ((digM c ss).map D.int))
theorem digA_len : ∀ (r : Int) (ss : List Int), (digA r ss).length = ss.length
  | _, [] => rfl
  | r, s :: ss => by unfold digA; rw [List.length_cons, List.length_cons, digA_len]
theorem digB_len : ∀ (r : Int) (k : Nat) (ss : List Int), (digB r k ss).length = ss.length
  | _, _, [] => rfl
  | r, k, s :: ss => by unfold digB; rw [List.length_cons, List.length_cons, digB_len]
theorem digM_len (c : Int) (ss : List Int) : (digM c ss).length = ss.length := by
  unfold digM; split
  · exact digA_len _ _
  · exact digB_len _ _ _
theorem digA_at : ∀ {r : Int} {ss : List Int}, (∀ s ∈ ss, 0 < s) → ∀ (k : Nat) (s d : Int), ss[k]? = some s → (digA r ss)[k]? = some d → 0 ≤ d ∧ d < s
  | r, [], _, k, s, d, h, _ => by simp at h
  | r, t :: ss, hp, 0, s, d, h, h' => by
    simp [digA] at h h'
    subst h; subst h'
    have := hp t List.mem_cons_self
    exact ⟨Int.emod_nonneg _ (by omega), Int.emod_lt_of_pos _ this⟩
  | r, t :: ss, hp, k + 1, s, d, h, h' => by
    simp [digA] at h h'
    exact digA_at (fun x hx => hp x (List.mem_cons_of_mem _ hx)) k s d h h'
theorem digB_at : ∀ {r : Int} {j : Nat} {ss : List Int}, (∀ s ∈ ss, 0 < s) → ∀ (k : Nat) (s d : Int), ss[k]? = some s → (digB r j ss)[k]? = some d → 0 ≤ d ∧ d < s
  | r, j, [], _, k, s, d, h, _ => by simp at h
  | r, j, t :: ss, hp, 0, s, d, h, h' => by
    simp [digB] at h h'
    subst h; subst h'
    have := hp t List.mem_cons_self
    exact ⟨Int.emod_nonneg _ (by omega), Int.emod_lt_of_pos _ this⟩
  | r, j, t :: ss, hp, k + 1, s, d, h, h' => by
    simp [digB] at h h'
    exact digB_at (fun x hx => hp x (List.mem_cons_of_mem _ hx)) k s d h h'
/-- each digit lies below its size -/
theorem digM_at {c : Int} {ss : List Int} (hp : ∀ s ∈ ss, 0 < s) (k : Nat) (s d : Int) (h : ss[k]? = some s) (h' : (digM c ss)[k]? = some d) : 0 ≤ d ∧ d < s := by
  unfold digM at h'; split at h'
  · exact digA_at hp k s d h h'
  · exact digB_at hp k s d h h'
/-- the seed behind k turns from turn j on -/
def seedIt (s : Int) (j : Nat) : Nat → Int
  | 0 => s
  | k + 1 => nextS (seedIt s j k) (j + k)
theorem seedIt_shift (s : Int) (j : Nat) : ∀ k : Nat, seedIt (nextS s j) (j + 1) k = seedIt s j (k + 1)
  | 0 => rfl
  | k + 1 => by
    have e : j + 1 + k = j + (k + 1) := by omega
    show nextS (seedIt (nextS s j) (j + 1) k) (j + 1 + k) = nextS (seedIt s j (k + 1)) (j + (k + 1))
    rw [seedIt_shift s j k, e]
theorem digB_get : ∀ (ss : List Int) (s : Int) (j k : Nat), (digB s j ss)[k]? = (ss[k]?).map fun z => drawS (seedIt s j (k + 1)) / 19 % z
  | [], s, j, k => by simp [digB]
  | z :: ss, s, j, 0 => by simp [digB, seedIt]
  | z :: ss, s, j, k + 1 => by
    have ih := digB_get ss (nextS s j) (j + 1) k
    rw [seedIt_shift] at ih
    simp [digB, ih]
theorem nextS_bound (s : Int) (k : Nat) : 0 ≤ nextS s k ∧ nextS s k < 2147483647 := by
  unfold nextS
  exact ⟨Int.emod_nonneg _ (by decide), Int.emod_lt_of_pos _ (by decide)⟩
theorem seedIt_bound {s : Int} (h : 0 ≤ s ∧ s < 2147483647) (j k : Nat) : 0 ≤ seedIt s j k ∧ seedIt s j k < 2147483647 := by
  cases k with
  | zero => exact h
  | succ k => exact nextS_bound _ _
end Go
set_option Elab.async false
set_option linter.all false
set_option maxRecDepth 100000
set_option maxHeartbeats 1000000
/-! What the proofs of all laws share. -/
namespace Go
open PySem PySem.Spec PyProof.Rows L2 DL
def nth (l : List Int) (k : Nat) : Int := l.getD k 0
def rowOk (sz row : List Int) : Prop := row.length = sz.length ∧ ∀ (k : Nat) (s d : Int), sz[k]? = some s → row[k]? = some d → 0 ≤ d ∧ d < s
theorem rowOk_dig (c : Int) {sz : List Int} (h : ∀ s ∈ sz, 0 < s) : rowOk sz (digM c sz) := ⟨digM_len c sz, fun k s d => digM_at h k s d⟩
theorem le2 : 2 ≤ 16777216 := by decide
theorem le3 : 3 ≤ 16777216 := by decide
theorem le1 : 1 ≤ 16777216 := by decide
structure Sh (n : Nat) (d : D) : Prop where
  pl : d.pl = true
  lay : d.py.canLay0 = true
  dep : d.py.depth ≤ n
theorem Sh.int (i : Int) : Sh 1 (.int i) := ⟨rfl, rfl, by simp [D.py, PyData.depth]⟩
theorem Sh.str {s : Str} (h : PyData.strOk s = true) : Sh 1 (.str s) := ⟨rfl, h, by simp [D.py, PyData.depth]⟩
theorem Sh.all {n : Nat} : ∀ {ds : List D}, (∀ d ∈ ds, Sh n d) → D.pls ds = true ∧ PyData.canLayAll0 (D.pys ds) = true ∧ PyData.depthAll (D.pys ds) ≤ n
  | [], _ => ⟨rfl, rfl, Nat.zero_le _⟩
  | d :: ds, h => by
    obtain ⟨a, b, c⟩ := Sh.all (n := n) (ds := ds) fun e he => h e (List.mem_cons_of_mem _ he)
    have hd := h d List.mem_cons_self
    refine ⟨?_, ?_, ?_⟩
    · show (d.pl && D.pls ds) = true; rw [hd.pl, a]; rfl
    · show (d.py.canLay0 && PyData.canLayAll0 (D.pys ds)) = true; rw [hd.lay, b]; rfl
    · show PyData.depthAll (d.py :: D.pys ds) ≤ n; rw [PyData.depthAll]; exact Nat.max_le.mpr ⟨hd.dep, c⟩
theorem Sh.lst {n : Nat} {ds : List D} (h : ∀ d ∈ ds, Sh n d) : Sh (n + 1) (.lst ds) := by
  obtain ⟨a, b, c⟩ := Sh.all h
  exact ⟨a, b, by show PyData.depth (.list (D.pys ds)) ≤ _; rw [PyData.depth]; omega⟩
theorem Sh.tup {n : Nat} {ds : List D} (h : ∀ d ∈ ds, Sh n d) : Sh (n + 1) (.tup ds) := by
  obtain ⟨a, b, c⟩ := Sh.all h
  exact ⟨a, b, by show PyData.depth (.tuple (D.pys ds)) ≤ _; rw [PyData.depth]; omega⟩
theorem Sh.ok {n : Nat} {d : D} (h : Sh n d) (hn : n ≤ 64) : d.ok = true := by
  unfold D.ok SeqAt.shaped
  rw [h.pl, h.lay]
  have := h.dep
  simp only [Bool.true_and, decide_eq_true_eq]; omega
theorem Sh.refl {n : Nat} {d : D} (h : Sh n d) : PyData.eqv d.py d.py = true := SeqAt.eqv_refl d.py h.lay
section
variable {K : PySem.W.Frag} {W : WX} {ρ : List Sl} {te ta tb : TE} {d : D}
theorem sv_notCall {t u : TS} {o : Out} (h : EvD K te ρ (.bl true)) (hu : SvD K W u ρ o) : SvD K W (tSeq (tIfS (tNot (tB te)) t tNext) u) ρ o := sv_seq (sv_ifF (tv_not (tv_B h)) sv_next) hu
theorem ev_nthI {l : List Int} {i : Int} (h : EvSL K te ρ (l.map D.int)) (hb : EvD K tb ρ (.int i)) (h0 : 0 ≤ i) (h1 : i < l.length) : EvD K (tOp (rIxA K) te tb) ρ (.int (nth l i.toNat)) := by
  have hi : i.toNat < l.length := by omega
  refine ev_ixL (i := i) h hb ?_
  have e : i = (i.toNat : Int) := by omega
  rw [e]
  refine atI_nat ?_
  rw [List.getElem?_map, List.getElem?_eq_getElem hi]
  show some (D.int _) = some (D.int _)
  unfold nth
  rw [List.getD_eq_getElem?_getD, show ((i.toNat : Int)).toNat = i.toNat from rfl, List.getElem?_eq_getElem hi]; rfl
theorem ev_nth {l : List Int} {k : Nat} (h : EvSL K te ρ (l.map D.int)) (hb : EvD K tb ρ (.int (k : Int))) (h1 : k < l.length) : EvD K (tOp (rIxA K) te tb) ρ (.int (nth l k)) := by
  have := ev_nthI h hb (by omega) (by omega)
  simpa using this
theorem p109 : (10 : Int) ^ (9 : Int).toNat = 1000000000 := by decide
theorem ev_p109 : EvD K (tOp (rI CPow fun i j => .int (i ^ j.toNat)) (tC (.int 10)) (tC (.int 9))) ρ (.int 1000000000) := ev_eq (ev_powI ev_int ev_int ⟨by decide, by decide, by decide⟩) (by rw [p109])
theorem sv_ifLt {t v : TS} {o : Out} {i j : Int} (ha : EvD K ta ρ (.int i)) (hb : EvD K tb ρ (.int j)) (hs : o.stops = true) (h1 : i < j → SvD K W t ρ o) (h2 : ¬ i < j → SvD K W v ρ o) : SvD K W (tSeq (tIfS (tTest (tOp (rI0 fun i j => .bl (decide (i < j))) ta tb)) t tNext) v) ρ o := by
  by_cases e : i < j
  · exact sv_stop (sv_ifT (tv_eq (tv_cmpI (g := fun i j => decide (i < j)) ha hb) (by simpa using e)) (h1 e)) hs
  · exact sv_seq (sv_ifF (tv_eq (tv_cmpI (g := fun i j => decide (i < j)) ha hb) (by simpa using e)) sv_next) (h2 e)
theorem cut_at {α : Type} {xs : List α} {lo hi j : Nat} (h1 : lo + j < hi) (h2 : hi ≤ xs.length) : (DL.cutD xs (some (lo : Int)) (some (hi : Int)))[j]? = xs[lo + j]? := by
  unfold DL.cutD
  rw [HT.sIx_nat, HT.sIx_nat, Nat.min_eq_left h2, Nat.min_eq_left (show lo ≤ xs.length by omega), List.getElem?_take, if_pos (by omega), List.getElem?_drop]
theorem ev_dig {row : List Int} {lo hi j : Nat} {e1 e2 : Int} {i : Nat} (hx : ρ[i]? = some (.ol (DL.cutD (row.map D.int) (some e1) (some e2)))) (he1 : e1 = (lo : Int)) (he2 : e2 = (hi : Int)) (hb : EvD K tb ρ (.int (j : Int))) (h1 : lo + j < hi) (h2 : hi ≤ row.length) : EvD K (tOp (rIxA K) (tVar i) tb) ρ (.int (nth row (lo + j))) := by
  subst he1; subst he2
  have hl : lo + j < row.length := by omega
  refine ev_ixL (i := (j : Int)) (sl_own hx) hb (atI_nat ?_)
  rw [cut_at h1 (by rw [List.length_map]; exact h2), List.getElem?_map, List.getElem?_eq_getElem hl]
  show some (D.int _) = some (D.int _)
  unfold nth
  rw [List.getD_eq_getElem?_getD, List.getElem?_eq_getElem hl]; rfl
theorem le4 : 4 ≤ 16777216 := by decide
theorem row_len {sz row : List Int} (h : rowOk sz row) : row.length = sz.length := h.1
theorem row_at {sz row : List Int} (h : rowOk sz row) {k : Nat} {s : Int} (hs : sz[k]? = some s) : 0 ≤ nth row k ∧ nth row k < s := by
  have hk : k < row.length := by rw [h.1]; exact (List.getElem?_eq_some_iff.mp hs).1
  have e : row[k]? = some (nth row k) := by unfold nth; rw [List.getD_eq_getElem?_getD, List.getElem?_eq_getElem hk]; rfl
  exact h.2 k s _ hs e
theorem row_le {sz row : List Int} {B : Int} (h : rowOk sz row) (hB : ∀ s ∈ sz, s ≤ B) {k : Nat} (hk : k < sz.length) : 0 ≤ nth row k ∧ nth row k < B := by
  have e := List.getElem?_eq_getElem hk
  have h1 := row_at h e
  have h2 := hB _ (List.getElem_mem hk)
  omega
theorem le5 : 5 ≤ 16777216 := by decide
theorem beqI (i j : Int) : (i == j) = decide (i = j) := by
  by_cases h : i = j
  · simp [h]
  · simp [h]
theorem le7 : 7 ≤ 16777216 := by decide
theorem max_of (l : List Int) : ∃ m, m ∈ 0 :: l ∧ ∀ y ∈ 0 :: l, y ≤ m := by
  induction l with
  | nil => exact ⟨0, by simp, by simp⟩
  | cons a l ih =>
    obtain ⟨m, h1, h2⟩ := ih
    by_cases e : a ≤ m
    · refine ⟨m, ?_, fun y hy => ?_⟩
      · rcases List.mem_cons.mp h1 with z | z
        · rw [z]; exact List.mem_cons_self
        · exact List.mem_cons_of_mem _ (List.mem_cons_of_mem _ z)
      · rcases List.mem_cons.mp hy with z | z
        · exact h2 y (by rw [z]; exact List.mem_cons_self)
        · rcases List.mem_cons.mp z with z | z
          · rw [z]; exact e
          · exact h2 y (List.mem_cons_of_mem _ z)
    · refine ⟨a, List.mem_cons_of_mem _ List.mem_cons_self, fun y hy => ?_⟩
      rcases List.mem_cons.mp hy with z | z
      · have := h2 y (by rw [z]; exact List.mem_cons_self)
        omega
      · rcases List.mem_cons.mp z with z | z
        · omega
        · have := h2 y (List.mem_cons_of_mem _ z)
          omega
theorem ev_name {ns : List Str} {i : Int} (h : EvSL K te ρ (ns.map D.str)) (hb : EvD K tb ρ (.int i)) (h0 : 0 ≤ i) (h1 : i < ns.length) : EvD K (tOp (rIxA K) te tb) ρ (.str (ns.getD i.toNat "")) := by
  have hi : i.toNat < ns.length := by omega
  refine ev_ixL (i := i) h hb ?_
  have e : i = (i.toNat : Int) := by omega
  rw [e]
  refine atI_nat ?_
  rw [List.getElem?_map, List.getElem?_eq_getElem hi]
  show some (D.str _) = some (D.str _)
  rw [List.getD_eq_getElem?_getD, show ((i.toNat : Int)).toNat = i.toNat from rfl, List.getElem?_eq_getElem hi]; rfl
theorem tv_same {n : Nat} {x : D} (ha : EvD K ta ρ x) (hb : EvD K tb ρ x) (h : Sh n x) (hn : n ≤ 64) : TvD K (tTest (tOp (rNeD K) ta tb)) ρ false := tv_eq (tv_neD ha hb (h.ok hn) (h.ok hn)) (by rw [h.refl]; rfl)
theorem sv_or2 {tt tu : TT} {t u : TS} {o : Out} (h1 : TvD K tt ρ false) (h2 : TvD K tu ρ false) (hu : SvD K W u ρ o) : SvD K W (tSeq (tIfS (tOr tt tu) t tNext) u) ρ o := sv_seq (sv_ifF (tv_or (a := false) (b := false) h1 fun _ => h2) sv_next) hu
end
end Go
set_option Elab.async false
set_option linter.all false
set_option maxRecDepth 100000
set_option maxHeartbeats 1000000
/-! Euclid; least and greatest numbers of a list; common divisors of a list. -/
namespace Go
open PySem PySem.Spec PyProof.Rows L2 DL
def gcdI (a b : Int) : Int := ((Nat.gcd a.natAbs b.natAbs : Nat) : Int)
theorem gcdI_eq (a b : Int) : gcdI a b = (Int.gcd a b : Int) := rfl
/-- two steps of Euclid halve -/
theorem euclid_half {b c j : Nat} (hc : 0 < c) (h : c < b) (hb : b < 2 ^ (j + 1)) : b % c < 2 ^ j := by
  have h1 := Nat.mod_lt b hc
  have h2 := Nat.div_add_mod b c
  have h3 : 1 ≤ b / c := Nat.div_pos (by omega) hc
  have h4 : c * 1 ≤ c * (b / c) := Nat.mul_le_mul_left c h3
  rw [Nat.pow_succ] at hb
  omega
def fr_law_gcd (ds : List D) (r : Res) : Prop := ∃ a b : Int, b.natAbs < 2 ^ 6000000 ∧ ds = [.int a, .int b] ∧ r = .ok (.int (gcdI a b))
theorem bd_mul {i j : Int} {a b : Nat} (ha : i.natAbs < 2 ^ a) (hb : j.natAbs < 2 ^ b) : (i * j).natAbs < 2 ^ (a + b) := wide_lt ha hb
theorem mul_b {i j : Int} {a b : Nat} (ha : i.natAbs < 2 ^ a) (hb : j.natAbs < 2 ^ b) (h : a + b ≤ 100000) : CMulX i j := mul_ok a b ha hb (by omega)
theorem ne_mul {a b : Int} (ha : a ≠ 0) (hb : b ≠ 0) : a * b ≠ 0 := Int.mul_ne_zero ha hb
/-! ### least, greatest -/
def minL : List Int → Int
  | [] => 0
  | [a] => a
  | a :: b :: l => if a ≤ minL (b :: l) then a else minL (b :: l)
def maxL : List Int → Int
  | [] => 0
  | [a] => a
  | a :: b :: l => if maxL (b :: l) ≤ a then a else maxL (b :: l)
theorem minL_mem : ∀ {l : List Int}, l ≠ [] → minL l ∈ l
  | [], h => absurd rfl h
  | [a], _ => by simp [minL]
  | a :: b :: l, _ => by
    have ih := minL_mem (l := b :: l) (by simp)
    unfold minL
    split
    · exact List.mem_cons_self
    · exact List.mem_cons_of_mem _ ih
theorem minL_le : ∀ {l : List Int} {x : Int}, x ∈ l → minL l ≤ x
  | [a], x, h => by simp at h; subst h; simp [minL]
  | a :: b :: l, x, h => by
    unfold minL
    rcases List.mem_cons.mp h with e | e
    · subst e; split <;> omega
    · have ih := minL_le (l := b :: l) e
      split <;> omega
theorem maxL_mem : ∀ {l : List Int}, l ≠ [] → maxL l ∈ l
  | [], h => absurd rfl h
  | [a], _ => by simp [maxL]
  | a :: b :: l, _ => by
    have ih := maxL_mem (l := b :: l) (by simp)
    unfold maxL
    split
    · exact List.mem_cons_self
    · exact List.mem_cons_of_mem _ ih
theorem maxL_le : ∀ {l : List Int} {x : Int}, x ∈ l → x ≤ maxL l
  | [a], x, h => by simp at h; subst h; simp [maxL]
  | a :: b :: l, x, h => by
    unfold maxL
    rcases List.mem_cons.mp h with e | e
    · subst e; split <;> omega
    · have ih := maxL_le (l := b :: l) e
      split <;> omega
theorem minL_eq {l : List Int} {m : Int} (h1 : m ∈ l) (h2 : ∀ x ∈ l, m ≤ x) : minL l = m := by
  have a := minL_le h1
  have b := h2 _ (minL_mem (fun e => by rw [e] at h1; cases h1))
  omega
theorem minL_add (b : Int) {l : List Int} (h : l ≠ []) : minL (l.map (· + b)) = minL l + b := by
  refine minL_eq (List.mem_map_of_mem (minL_mem h)) fun x hx => ?_
  obtain ⟨y, hy, rfl⟩ := List.mem_map.mp hx
  have := minL_le hy
  show minL l + b ≤ y + b
  omega
/-! ### the greatest common divisor of a list -/
def gcdL (l : List Int) : Int := l.foldl gcdI 0
theorem gcdI_nn (a b : Int) : 0 ≤ gcdI a b := by rw [gcdI_eq]; omega
theorem fold_gcd_nn : ∀ (l : List Int) (g : Int), 0 ≤ g → 0 ≤ l.foldl gcdI g
  | [], g, h => h
  | c :: l, g, _ => fold_gcd_nn l (gcdI g c) (gcdI_nn g c)
theorem gcdL_nn (l : List Int) : 0 ≤ gcdL l := fold_gcd_nn l 0 (by omega)
theorem fold_gcd_dvd : ∀ (l : List Int) (g : Int), l.foldl gcdI g ∣ g ∧ ∀ c ∈ l, l.foldl gcdI g ∣ c
  | [], g => ⟨Int.dvd_refl _, fun _ h => nomatch h⟩
  | c :: l, g => by
    obtain ⟨h1, h2⟩ := fold_gcd_dvd l (gcdI g c)
    have d1 : gcdI g c ∣ g := Int.gcd_dvd_left _ _
    have d2 : gcdI g c ∣ c := Int.gcd_dvd_right _ _
    rw [List.foldl_cons]
    refine ⟨Int.dvd_trans h1 d1, fun x hx => ?_⟩
    rcases List.mem_cons.mp hx with e | e
    · rw [e]; exact Int.dvd_trans h1 d2
    · exact h2 x e
theorem gcdL_dvd {l : List Int} {c : Int} (h : c ∈ l) : gcdL l ∣ c := (fold_gcd_dvd l 0).2 c h
theorem gcdI_scale (f a b : Int) : gcdI (a * f) (b * f) = gcdI a b * f.natAbs := by
  rw [gcdI_eq, gcdI_eq, Int.gcd_mul_right]
  simp
theorem gcdI_abs (a b f : Int) : gcdI (a * f.natAbs) (b * f) = gcdI a b * f.natAbs := by
  have : gcdI (a * f.natAbs) (b * f) = gcdI (a * f) (b * f) := by
    unfold gcdI
    rw [Int.natAbs_mul, Int.natAbs_mul, Int.natAbs_natCast]
    rw [Int.natAbs_mul a f]
  rw [this, gcdI_scale]
theorem fold_gcd_scale (f : Int) : ∀ (l : List Int) (g : Int), (l.map (· * f)).foldl gcdI (g * f.natAbs) = l.foldl gcdI g * f.natAbs
  | [], g => rfl
  | c :: l, g => by
    rw [List.map_cons, List.foldl_cons, List.foldl_cons, gcdI_abs]
    exact fold_gcd_scale f l (gcdI g c)
theorem gcdL_scale (f : Int) (l : List Int) : gcdL (l.map (· * f)) = gcdL l * f.natAbs := by
  have := fold_gcd_scale f l 0
  rw [Int.zero_mul] at this
  exact this
theorem gcdL_pos {l : List Int} {c : Int} (h : c ∈ l) (h0 : c ≠ 0) : 0 < gcdL l := by
  have := gcdL_nn l
  have d := gcdL_dvd h
  rcases Int.lt_or_eq_of_le this with e | e
  · exact e
  · rw [← e] at d
    exact absurd (Int.zero_dvd.mp d) h0
theorem gcdL_le {l : List Int} {c : Int} (h : c ∈ l) (h0 : c ≠ 0) : (gcdL l).natAbs ≤ c.natAbs := by
  have d := gcdL_dvd h
  exact Nat.le_of_dvd (by omega) (Int.natAbs_dvd_natAbs.mpr d)
/-- the divisor with the sign of the number c -/
def sgnD (g c : Int) : Int := if c < 0 then -g else g
theorem sgnD_ne {g c : Int} (h : 0 < g) : sgnD g c ≠ 0 := by unfold sgnD; split <;> omega
theorem sgnD_abs {g c : Int} (h : 0 < g) : (sgnD g c).natAbs = g.natAbs := by unfold sgnD; split <;> omega
theorem sgnD_dvd {g c x : Int} (h : g ∣ x) : sgnD g c ∣ x := by
  unfold sgnD
  split
  · exact (Int.neg_dvd).mpr h
  · exact h
theorem sgnD_scale {g c f : Int} (h : c ≠ 0) (hf : f ≠ 0) : sgnD (g * f.natAbs) (c * f) = sgnD g c * f := by
  unfold sgnD
  by_cases c0 : c < 0
  · by_cases f0 : f < 0
    · have : ¬ c * f < 0 := by have := Int.mul_pos_of_neg_of_neg c0 f0; omega
      rw [if_neg this, if_pos c0]
      have e : (f.natAbs : Int) = -f := by omega
      rw [e, Int.mul_neg, Int.neg_mul]
    · have : c * f < 0 := Int.mul_neg_of_neg_of_pos c0 (by omega)
      rw [if_pos this, if_pos c0]
      have e : (f.natAbs : Int) = f := by omega
      rw [e, Int.neg_mul]
  · by_cases f0 : f < 0
    · have : c * f < 0 := Int.mul_neg_of_pos_of_neg (by omega) f0
      rw [if_pos this, if_neg c0]
      have e : (f.natAbs : Int) = -f := by omega
      rw [e, Int.mul_neg, Int.neg_neg]
    · have : ¬ c * f < 0 := by have := Int.mul_pos (show 0 < c by omega) (show 0 < f by omega); omega
      rw [if_neg this, if_neg c0]
      have e : (f.natAbs : Int) = f := by omega
      rw [e]
theorem fdiv_scale {c s f : Int} (h : s ∣ c) (hs : s ≠ 0) (hf : f ≠ 0) : (c * f).fdiv (s * f) = c.fdiv s := by
  obtain ⟨q, rfl⟩ := h
  rw [Int.mul_fdiv_cancel_left _ hs]
  have : s * q * f = s * f * q := by rw [Int.mul_assoc, Int.mul_comm q f, ← Int.mul_assoc]
  rw [this, Int.mul_fdiv_cancel_left _ (ne_mul hs hf)]
theorem fdiv_one (c : Int) : c.fdiv 1 = c := by
  have := Int.mul_fdiv_cancel_left (a := 1) c (by decide)
  rwa [Int.one_mul] at this
theorem fdiv_mul {c s : Int} (h : s ∣ c) (hs : s ≠ 0) : c.fdiv s * s = c := by
  obtain ⟨q, rfl⟩ := h
  rw [Int.mul_fdiv_cancel_left _ hs, Int.mul_comm]
end Go
set_option Elab.async false
set_option linter.all false
set_option maxRecDepth 100000
set_option maxHeartbeats 1000000
/-! Sums as data; their one form. -/
namespace Go
open PySem PySem.Spec PyProof.Rows L2 DL
abbrev Tm := Str × Int × Int
abbrev Kk := Str × Int
abbrev Tm.k (t : Tm) : Kk := (t.1, t.2.1)
def pyK (k : Kk) : PyData := .tuple [.str k.1, .int k.2]
def ltK (a b : Kk) : Bool := if a.1 = b.1 then decide (a.2 < b.2) else decide (a.1.cps.toList < b.1.cps.toList)
theorem dataLt_K (a b : Kk) : PySem.W.dataLt (pyK a) (pyK b) = ltK a b := by
  unfold pyK ltK
  rw [PySem.W.dataLt_pair rfl rfl, PySem.W.dataLt_int, PySem.W.dataLt_str]
  have e1 : PyData.eqv (.str a.1) (.str b.1) = decide (a.1 = b.1) := by
    show (a.1 == b.1) = _
    by_cases h : a.1 = b.1
    · rw [h]; simp
    · simp [h]
  have e2 : PyData.eqv (.int a.2) (.int b.2) = decide (a.2 = b.2) := by
    show (a.2 == b.2) = _
    by_cases h : a.2 = b.2
    · rw [h]; simp
    · simp [h]
  rw [e1, e2]
  by_cases h : a.1 = b.1
  · simp only [h, decide_true, if_true]
    by_cases h2 : a.2 = b.2
    · simp [h2]
    · simp [h2]
  · simp [h]
theorem str_ext {a b : Str} (h : a.cps.toList = b.cps.toList) : a = b := by
  cases a with
  | mk x => cases b with
    | mk y =>
      have : x = y := Array.toList_inj.mp h
      rw [this]
theorem ltK_irrefl (a : Kk) : ltK a a = false := by
  unfold ltK; simp
theorem ltK_trans {a b c : Kk} (h1 : ltK a b = true) (h2 : ltK b c = true) : ltK a c = true := by
  unfold ltK at *
  by_cases e1 : a.1 = b.1
  · rw [if_pos e1] at h1
    by_cases e2 : b.1 = c.1
    · rw [if_pos e2] at h2
      rw [if_pos (e1.trans e2)]
      simp only [decide_eq_true_eq] at *
      omega
    · rw [if_neg e2] at h2
      rw [if_neg (by rw [e1]; exact e2), e1]
      exact h2
  · rw [if_neg e1] at h1
    by_cases e2 : b.1 = c.1
    · rw [if_pos e2] at h2
      rw [if_neg (by rw [← e2]; exact e1), ← e2]
      exact h1
    · rw [if_neg e2] at h2
      simp only [decide_eq_true_eq] at h1 h2
      have h3 : a.1.cps.toList < c.1.cps.toList := List.lt_trans h1 h2
      have ne : a.1 ≠ c.1 := fun e => by
        rw [e] at h3
        exact List.lt_irrefl _ h3
      rw [if_neg ne]
      exact decide_eq_true h3
theorem ltK_asymm {a b : Kk} (h1 : ltK a b = true) : ltK b a = false := by
  cases h : ltK b a with
  | false => rfl
  | true => have := ltK_trans h1 h; rw [ltK_irrefl] at this; cases this
theorem ltK_total {a b : Kk} (h : a ≠ b) : ltK a b = true ∨ ltK b a = true := by
  unfold ltK
  by_cases e : a.1 = b.1
  · have ne : a.2 ≠ b.2 := fun z => h (Prod.ext e z)
    rw [if_pos e, if_pos e.symm]
    simp only [decide_eq_true_eq]; omega
  · rw [if_neg e, if_neg (fun z => e z.symm)]
    simp only [decide_eq_true_eq]
    by_cases hl : a.1.cps.toList < b.1.cps.toList
    · exact .inl hl
    · right
      have hle : b.1.cps.toList ≤ a.1.cps.toList := List.not_lt.mp hl
      rcases List.le_iff_lt_or_eq.mp hle with h3 | h3
      · exact h3
      · exact absurd (str_ext h3).symm e
def leK : Kk → Kk → Bool := PySem.W.dataLe false pyK
theorem leK_eq (a b : Kk) : leK a b = !ltK b a := by
  unfold leK
  rw [PySem.W.dataLe_eq]
  show (!PySem.W.dataLt (pyK b) (pyK a)) = _
  rw [dataLt_K]
def sortK (l : List Kk) : List Kk := l.mergeSort leK
theorem sortK_mem {l : List Kk} {k : Kk} : k ∈ sortK l ↔ k ∈ l := (List.mergeSort_perm l leK).mem_iff
theorem sortK_lt {l : List Kk} (nd : l.Nodup) : (sortK l).Pairwise (fun a b => ltK a b = true) := by
  have h := List.pairwise_mergeSort (le := leK) (fun a b c h1 h2 => by
    rw [leK_eq] at *
    rw [Bool.not_eq_true'] at *
    by_cases e1 : a = b
    · rw [e1]; exact h2
    · by_cases e2 : b = c
      · rw [← e2]; exact h1
      · rcases ltK_total e1 with h3 | h3
        · rcases ltK_total e2 with h4 | h4
          · exact ltK_asymm (ltK_trans h3 h4)
          · rw [h4] at h2; cases h2
        · rw [h3] at h1; cases h1) (fun a b => by
    rw [leK_eq, leK_eq, Bool.or_eq_true, Bool.not_eq_true', Bool.not_eq_true']
    by_cases e : a = b
    · rw [e]; exact .inl (ltK_irrefl b)
    · rcases ltK_total e with h | h
      · exact .inl (ltK_asymm h)
      · exact .inr (ltK_asymm h)) l
  have nd' : (sortK l).Nodup := (List.mergeSort_perm l leK).nodup_iff.mpr nd
  refine List.Pairwise.imp₂ (fun a b h1 h2 => ?_) h nd'
  rw [leK_eq, Bool.not_eq_true'] at h1
  rcases ltK_total h2 with z | z
  · exact z
  · rw [z] at h1; cases h1
/-- two ascending lists with the same members -/
theorem asc_eq {α : Type} (lt : α → α → Prop) (irr : ∀ a, ¬ lt a a) (tr : ∀ a b c, lt a b → lt b c → lt a c) : ∀ (l m : List α), l.Pairwise lt → m.Pairwise lt → (∀ a, a ∈ l ↔ a ∈ m) → l = m
  | [], [], _, _, _ => rfl
  | [], b :: m, _, _, h => absurd ((h b).mpr List.mem_cons_self) (by simp)
  | a :: l, [], _, _, h => absurd ((h a).mp List.mem_cons_self) (by simp)
  | a :: l, b :: m, hl, hm, h => by
    obtain ⟨l1, l2⟩ := List.pairwise_cons.mp hl
    obtain ⟨m1, m2⟩ := List.pairwise_cons.mp hm
    have e : a = b := by
      rcases List.mem_cons.mp ((h a).mp List.mem_cons_self) with e | e
      · exact e
      · rcases List.mem_cons.mp ((h b).mpr List.mem_cons_self) with z | z
        · exact z.symm
        · exact absurd (tr _ _ _ (m1 a e) (l1 b z)) (irr b)
    subst e
    rw [asc_eq lt irr tr l m l2 m2 fun c => ?_]
    constructor
    · intro hc
      rcases List.mem_cons.mp ((h c).mp (List.mem_cons_of_mem _ hc)) with z | z
      · subst z; exact absurd (l1 c hc) (irr c)
      · exact z
    · intro hc
      rcases List.mem_cons.mp ((h c).mpr (List.mem_cons_of_mem _ hc)) with z | z
      · subst z; exact absurd (m1 c hc) (irr c)
      · exact z
/-! ### coefficients -/
def cf : List Tm → Kk → Int
  | [], _ => 0
  | t :: ts, k => (if t.k = k then t.2.2 else 0) + cf ts k
theorem cf_append (a b : List Tm) (k : Kk) : cf (a ++ b) k = cf a k + cf b k := by
  induction a with
  | nil => simp [cf]
  | cons t a ih => simp only [List.cons_append, cf, ih]; omega
section
variable {κ β : Type} [DecidableEq κ]
theorem gget_gput (k k' : κ) (v : β) : ∀ a : List (κ × β), gget (gput a k v) k' = if k = k' then some v else gget a k'
  | [] => by
    simp only [gput, gget]
  | p :: r => by
    have ih := gget_gput k k' v r
    unfold gput
    by_cases e : p.1 = k
    · rw [if_pos e]
      unfold gget
      by_cases e2 : k = k'
      · simp [e2]
      · rw [if_neg e2]; simp only [e2, if_false]; rw [if_neg (by rw [e]; exact e2)]
    · rw [if_neg e]
      conv => lhs; unfold gget
      conv => rhs; rhs; unfold gget
      by_cases e3 : p.1 = k'
      · rw [if_pos e3, if_pos e3, if_neg (fun z => e (e3.trans z.symm))]
      · rw [if_neg e3, if_neg e3, ih]
theorem gget_mem {k : κ} {v : β} : ∀ {a : List (κ × β)}, gget a k = some v → k ∈ a.map (·.1)
  | p :: r, h => by
    unfold gget at h
    by_cases e : p.1 = k
    · rw [← e]; exact List.mem_cons_self
    · rw [if_neg e] at h; exact List.mem_cons_of_mem _ (gget_mem h)
theorem gget_none {k : κ} : ∀ {a : List (κ × β)}, k ∉ a.map (·.1) → gget a k = none
  | [], _ => rfl
  | p :: r, h => by
    unfold gget
    rw [if_neg (fun e => h (by rw [← e]; exact List.mem_cons_self))]
    exact gget_none fun z => h (List.mem_cons_of_mem _ z)
theorem gget_some {k : κ} : ∀ {a : List (κ × β)}, k ∈ a.map (·.1) → ∃ v, gget a k = some v
  | p :: r, h => by
    unfold gget
    by_cases e : p.1 = k
    · rw [if_pos e]; exact ⟨_, rfl⟩
    · rw [if_neg e]
      rcases List.mem_cons.mp h with z | z
      · exact absurd z.symm e
      · exact gget_some z
end
/-- the dict's pairs behind the terms -/
def stepM (a : List (Kk × Int)) (t : Tm) : List (Kk × Int) := gput a t.k ((gget a t.k).getD 0 + t.2.2)
def accM (a : List (Kk × Int)) (ts : List Tm) : List (Kk × Int) := ts.foldl stepM a
theorem accM_get : ∀ (ts : List Tm) (a : List (Kk × Int)) (k : Kk), (gget (accM a ts) k).getD 0 = (gget a k).getD 0 + cf ts k
  | [], a, k => by simp [accM, cf]
  | t :: ts, a, k => by
    show (gget (accM (stepM a t) ts) k).getD 0 = _
    rw [accM_get ts, stepM, gget_gput, cf]
    by_cases e : t.k = k
    · rw [if_pos e, if_pos e, e]; simp only [Option.getD_some]; omega
    · rw [if_neg e, if_neg e]; omega
theorem accM_nodup : ∀ (ts : List Tm) (a : List (Kk × Int)), (a.map (·.1)).Nodup → ((accM a ts).map (·.1)).Nodup
  | [], a, h => h
  | t :: ts, a, h => accM_nodup ts _ (gput_keys _ _ a h).1
theorem accM_len : ∀ (ts : List Tm) (a : List (Kk × Int)), (accM a ts).length ≤ a.length + ts.length
  | [], a => Nat.le_refl _
  | t :: ts, a => by
    have h1 := accM_len ts (stepM a t)
    have h2 := gput_length t.k ((gget a t.k).getD 0 + t.2.2) a
    show (accM (stepM a t) ts).length ≤ _
    rw [List.length_cons]
    unfold stepM at h1 ⊢
    omega
/-- the sum in its one form -/
def ordOf (a : List (Kk × Int)) : List Tm := (sortK (a.map (·.1))).filterMap fun k => if (gget a k).getD 0 ≠ 0 then some (k.1, k.2, (gget a k).getD 0) else none
def ordM (ts : List Tm) : List Tm := ordOf (accM [] ts)
def ltT (a b : Tm) : Prop := ltK a.k b.k = true
structure Can (L : List Tm) : Prop where
  lt : L.Pairwise ltT
  ne : ∀ t ∈ L, t.2.2 ≠ 0
theorem ordOf_mem {a : List (Kk × Int)} {t : Tm} : t ∈ ordOf a ↔ (gget a t.k).getD 0 = t.2.2 ∧ t.2.2 ≠ 0 := by
  unfold ordOf
  rw [List.mem_filterMap]
  constructor
  · rintro ⟨k, hk, e⟩
    by_cases z : (gget a k).getD 0 ≠ 0
    · rw [if_pos z] at e; cases e; exact ⟨rfl, z⟩
    · rw [if_neg z] at e; cases e
  · rintro ⟨h1, h2⟩
    refine ⟨t.k, ?_, ?_⟩
    · rw [sortK_mem]
      cases e : gget a t.k with
      | none => rw [e] at h1; exact absurd h1.symm h2
      | some v => exact gget_mem e
    · rw [if_pos (by rw [h1]; exact h2), h1]
theorem ordOf_can {a : List (Kk × Int)} (nd : (a.map (·.1)).Nodup) : Can (ordOf a) := by
  refine ⟨?_, fun t ht => (ordOf_mem.mp ht).2⟩
  unfold ordOf
  refine List.Pairwise.filterMap _ (fun k k' h t ht t' ht' => ?_) (sortK_lt nd)
  by_cases z : (gget a k).getD 0 ≠ 0
  · rw [if_pos z] at ht
    by_cases z' : (gget a k').getD 0 ≠ 0
    · rw [if_pos z'] at ht'; cases ht; cases ht'; exact h
    · rw [if_neg z'] at ht'; cases ht'
  · rw [if_neg z] at ht; cases ht
theorem ordM_can (ts : List Tm) : Can (ordM ts) := ordOf_can (accM_nodup ts [] List.nodup_nil)
theorem ordM_mem {ts : List Tm} {t : Tm} : t ∈ ordM ts ↔ cf ts t.k = t.2.2 ∧ t.2.2 ≠ 0 := by
  unfold ordM
  rw [ordOf_mem, accM_get]
  simp [gget]
theorem can_eq {L M : List Tm} (hL : Can L) (hM : Can M) (h : ∀ t, t ∈ L ↔ t ∈ M) : L = M := asc_eq ltT (fun a z => by unfold ltT at z; rw [ltK_irrefl] at z; cases z) (fun a b c h1 h2 => ltK_trans h1 h2) L M hL.lt hM.lt h
theorem ordM_eq {a b : List Tm} (h : ∀ k, cf a k = cf b k) : ordM a = ordM b := can_eq (ordM_can a) (ordM_can b) fun t => by rw [ordM_mem, ordM_mem, h]
/-- a sum in its form tells its coefficients -/
theorem cf_zero {L : List Tm} {k : Kk} (h : ∀ t ∈ L, t.k ≠ k) : cf L k = 0 := by
  induction L with
  | nil => rfl
  | cons t L ih =>
    simp only [cf]
    rw [if_neg (h t List.mem_cons_self), ih fun u hu => h u (List.mem_cons_of_mem _ hu)]; rfl
theorem Can.tail {t : Tm} {L : List Tm} (h : Can (t :: L)) : Can L := ⟨(List.pairwise_cons.mp h.lt).2, fun u hu => h.ne u (List.mem_cons_of_mem _ hu)⟩
theorem can_cf : ∀ {L : List Tm}, Can L → ∀ {t : Tm}, t ∈ L → cf L t.k = t.2.2
  | u :: L, h, t, ht => by
    have hl := (List.pairwise_cons.mp h.lt).1
    simp only [cf]
    rcases List.mem_cons.mp ht with e | e
    · subst e
      rw [if_pos rfl, cf_zero fun v hv z => ?_]
      · omega
      · have := hl v hv
        unfold ltT at this
        rw [z, ltK_irrefl] at this; cases this
    · rw [if_neg, can_cf h.tail e]
      · omega
      · intro z
        have := hl t e
        unfold ltT at this
        rw [z, ltK_irrefl] at this; cases this
theorem can_mem {L : List Tm} (h : Can L) {t : Tm} : t ∈ L ↔ cf L t.k = t.2.2 ∧ t.2.2 ≠ 0 := by
  refine ⟨fun ht => ⟨can_cf h ht, h.ne t ht⟩, fun ⟨h1, h2⟩ => ?_⟩
  by_cases z : ∃ u ∈ L, u.k = t.k
  · obtain ⟨u, hu, e⟩ := z
    have := can_cf h hu
    rw [e, h1] at this
    have e2 : u = t := by
      have e' : (u.1, u.2.1) = (t.1, t.2.1) := e
      have a1 : u.1 = t.1 := (Prod.mk.inj e').1
      have a2 : u.2.1 = t.2.1 := (Prod.mk.inj e').2
      exact Prod.ext a1 (Prod.ext a2 this.symm)
    rw [← e2]; exact hu
  · exact absurd (by rw [← h1]; exact cf_zero fun u hu e => z ⟨u, hu, e⟩) h2
theorem ordM_self {L : List Tm} (h : Can L) : ordM L = L := can_eq (ordM_can L) h fun t => by rw [ordM_mem, can_mem h]
theorem ordM_cf (ts : List Tm) (k : Kk) : cf (ordM ts) k = cf ts k := by
  by_cases z : cf ts k = 0
  · rw [z]
    refine cf_zero fun t ht e => ?_
    have := ordM_mem.mp ht
    rw [e, z] at this
    exact this.2 this.1.symm
  · have hm : (k.1, k.2, cf ts k) ∈ ordM ts := ordM_mem.mpr ⟨rfl, z⟩
    exact can_cf (ordM_can ts) hm
/-! ### what is done with sums -/
abbrev Pr := Int × Int
def mulM (ps : List Pr) (ts : List Tm) : List Tm := ps.flatMap fun p => ts.map fun t => (t.1, t.2.1 + p.1, p.2 * t.2.2)
def movM (by' : Int) (ts : List Tm) : List Tm := ts.map fun t => (t.1, t.2.1 + by', t.2.2)
theorem cf_mov (b : Int) (ts : List Tm) (k : Kk) : cf (movM b ts) k = cf ts (k.1, k.2 - b) := by
  induction ts with
  | nil => rfl
  | cons t ts ih =>
    show (if Tm.k (t.1, t.2.1 + b, t.2.2) = k then t.2.2 else 0) + cf (movM b ts) k = _
    rw [ih, cf]
    have : Tm.k (t.1, t.2.1 + b, t.2.2) = k ↔ t.k = (k.1, k.2 - b) := by
      constructor
      · intro e
        have a1 : t.1 = k.1 := congrArg Prod.fst e
        have a2 : t.2.1 + b = k.2 := congrArg Prod.snd e
        exact Prod.ext a1 (by show t.2.1 = k.2 - b; omega)
      · intro e
        have a1 : t.1 = k.1 := congrArg Prod.fst e
        have a2 : t.2.1 = k.2 - b := congrArg Prod.snd e
        exact Prod.ext a1 (by show t.2.1 + b = k.2; omega)
    by_cases h : t.k = (k.1, k.2 - b)
    · rw [if_pos (this.mpr h), if_pos h]
    · rw [if_neg fun z => h (this.mp z), if_neg h]
def sumZ : List Int → Int
  | [] => 0
  | x :: xs => x + sumZ xs
theorem cf_scale (b f : Int) (ts : List Tm) (k : Kk) : cf (ts.map fun t => (t.1, t.2.1 + b, f * t.2.2)) k = f * cf ts (k.1, k.2 - b) := by
  induction ts with
  | nil => simp [cf]
  | cons t ts ih =>
    show (if Tm.k (t.1, t.2.1 + b, f * t.2.2) = k then f * t.2.2 else 0) + cf (ts.map fun t => (t.1, t.2.1 + b, f * t.2.2)) k = _
    rw [ih, cf]
    have : Tm.k (t.1, t.2.1 + b, f * t.2.2) = k ↔ t.k = (k.1, k.2 - b) := by
      constructor
      · intro e
        have a1 : t.1 = k.1 := congrArg Prod.fst e
        have a2 : t.2.1 + b = k.2 := congrArg Prod.snd e
        exact Prod.ext a1 (by show t.2.1 = k.2 - b; omega)
      · intro e
        have a1 : t.1 = k.1 := congrArg Prod.fst e
        have a2 : t.2.1 = k.2 - b := congrArg Prod.snd e
        exact Prod.ext a1 (by show t.2.1 + b = k.2; omega)
    by_cases h : t.k = (k.1, k.2 - b)
    · rw [if_pos (this.mpr h), if_pos h, Int.mul_add]
    · rw [if_neg fun z => h (this.mp z), if_neg h, Int.zero_add, Int.zero_add]
theorem cf_mul (ps : List Pr) (ts : List Tm) (k : Kk) : cf (mulM ps ts) k = sumZ (ps.map fun p => p.2 * cf ts (k.1, k.2 - p.1)) := by
  induction ps with
  | nil => rfl
  | cons p ps ih =>
    show cf ((ts.map fun t => (t.1, t.2.1 + p.1, p.2 * t.2.2)) ++ mulM ps ts) k = _
    rw [cf_append, cf_scale, ih]; rfl
theorem mul_congr {ps : List Pr} {a b : List Tm} (h : ∀ k, cf a k = cf b k) (k : Kk) : cf (mulM ps a) k = cf (mulM ps b) k := by
  rw [cf_mul, cf_mul]
  congr 1
  exact List.map_congr_left fun p _ => by rw [h]
/-! ### polynomials -/
def stepP (a : List (Int × Int)) (p : Pr) : List (Int × Int) := gput a p.1 ((gget a p.1).getD 0 + p.2)
def accP (a : List (Int × Int)) (ps : List Pr) : List (Int × Int) := ps.foldl stepP a
def leI (a b : Int) : Bool := decide (a ≤ b)
def polyM (ps : List Pr) : List Pr := (((accP [] ps).map (·.1)).mergeSort leI).filterMap fun k => if (gget (accP [] ps) k).getD 0 ≠ 0 then some (k, (gget (accP [] ps) k).getD 0) else none
def wt (g : Int → Int) (ps : List Pr) : Int := sumZ (ps.map fun p => p.2 * g p.1)
theorem wt_cons (g : Int → Int) (p : Pr) (ps : List Pr) : wt g (p :: ps) = p.2 * g p.1 + wt g ps := rfl
theorem wt_perm (g : Int → Int) {a b : List Pr} (h : a.Perm b) : wt g a = wt g b := by
  induction h with
  | nil => rfl
  | cons x _ ih => rw [wt_cons, wt_cons, ih]
  | swap x y l => rw [wt_cons, wt_cons, wt_cons, wt_cons]; omega
  | trans _ _ h1 h2 => rw [h1, h2]
theorem wt_put (g : Int → Int) (k v : Int) : ∀ a : List (Int × Int), wt g (gput a k ((gget a k).getD 0 + v)) = wt g a + v * g k
  | [] => by
    simp only [gput, gget, wt_cons]
    show (0 + v) * g k + 0 = 0 + v * g k
    rw [Int.zero_add, Int.zero_add, Int.add_zero]
  | p :: r => by
    have ih := wt_put g k v r
    unfold gput gget
    by_cases e : p.1 = k
    · rw [if_pos e, if_pos e, wt_cons, wt_cons, e]
      show (p.2 + v) * g k + _ = _
      rw [Int.add_mul]; omega
    · rw [if_neg e, if_neg e, wt_cons, wt_cons, ih]; omega
theorem wt_acc (g : Int → Int) : ∀ (ps : List Pr) (a : List (Int × Int)), wt g (accP a ps) = wt g a + wt g ps
  | [], a => by show wt g a = wt g a + 0; omega
  | p :: ps, a => by
    show wt g (accP (stepP a p) ps) = _
    rw [wt_acc g ps, stepP, wt_put, wt_cons]; omega
theorem accP_nodup : ∀ (ps : List Pr) (a : List (Int × Int)), (a.map (·.1)).Nodup → ((accP a ps).map (·.1)).Nodup
  | [], a, h => h
  | p :: ps, a, h => accP_nodup ps _ (gput_keys _ _ a h).1
theorem accP_len : ∀ (ps : List Pr) (a : List (Int × Int)), (accP a ps).length ≤ a.length + ps.length
  | [], a => Nat.le_refl _
  | p :: ps, a => by
    have h1 := accP_len ps (stepP a p)
    have h2 := gput_length p.1 ((gget a p.1).getD 0 + p.2) a
    show (accP (stepP a p) ps).length ≤ _
    rw [List.length_cons]
    unfold stepP at h1 ⊢
    omega
theorem pairs_self {a : List (Int × Int)} (nd : (a.map (·.1)).Nodup) : (a.map (·.1)).map (fun k => (k, (gget a k).getD 0)) = a := by
  induction a with
  | nil => rfl
  | cons p r ih =>
    have nd' := List.nodup_cons.mp nd
    have e1 : gget (p :: r) p.1 = some p.2 := by unfold gget; rw [if_pos rfl]
    rw [List.map_cons, List.map_cons, e1]
    show p :: _ = p :: r
    congr 1
    conv => rhs; rw [← ih nd'.2]
    refine List.map_congr_left fun q hq => ?_
    have ne : p.1 ≠ q := fun e => nd'.1 (by rw [← e] at hq; exact hq)
    have e2 : gget (p :: r) q = gget r q := by
      conv => lhs; unfold gget
      rw [if_neg ne]
    rw [e2]
theorem wt_filter (g : Int → Int) (a : List (Int × Int)) : ∀ ks : List Int, wt g (ks.filterMap fun k => if (gget a k).getD 0 ≠ 0 then some (k, (gget a k).getD 0) else none) = wt g (ks.map fun k => (k, (gget a k).getD 0))
  | [] => rfl
  | k :: ks => by
    rw [List.filterMap_cons, List.map_cons, wt_cons]
    by_cases z : (gget a k).getD 0 ≠ 0
    · rw [if_pos z]; simp only [wt_cons]; rw [wt_filter g a ks]
    · rw [if_neg z]
      simp only
      rw [wt_filter g a ks]
      have : (gget a k).getD 0 = 0 := Classical.not_not.mp z
      rw [this]; omega
theorem wt_poly (g : Int → Int) (ps : List Pr) : wt g (polyM ps) = wt g ps := by
  unfold polyM
  rw [wt_filter]
  have nd := accP_nodup ps [] List.nodup_nil
  have h := wt_acc g ps []
  rw [wt_perm g ((List.mergeSort_perm ((accP [] ps).map (·.1)) leI).map _), pairs_self nd, h]
  show 0 + _ = _
  omega
theorem mul_poly (ps : List Pr) (ts : List Tm) (k : Kk) : cf (mulM (polyM ps) ts) k = cf (mulM ps ts) k := by
  rw [cf_mul, cf_mul]
  exact wt_poly (fun b => cf ts (k.1, k.2 - b)) ps
end Go
set_option Elab.async false
set_option linter.all false
set_option maxRecDepth 100000
set_option maxHeartbeats 1000000
/-! Dividing polynomials: the steps and what stays true. -/
namespace Go
open PySem PySem.Spec PyProof.Rows L2 DL
abbrev As := List (Int × Int)
def G (a : As) (k : Int) : Int := (gget a k).getD 0
def timesA (g : Int) (a : As) : As := a.map fun p => (p.1, g * p.2)
def putQ (h m : Int) (r : As) (q : Pr) : As := gput r (q.1 + m) (G r (q.1 + m) - h * q.2)
structure Sd where
  rest : As
  fac : As
  scale : Int
def shG (held c : Int) : Int := sgnD (gcdI held c) c
def growG (held c : Int) : Int := c.fdiv (shG held c)
def hG (held c : Int) : Int := held.fdiv (shG held c)
def stepD (Q : List Pr) (s : Sd) (x : Int × Pr) : Sd :=
  let held := G s.rest x.1
  if held = 0 then s else
  let grow := growG held x.2.2
  let rest1 := if grow ≠ 1 then timesA grow s.rest else s.rest
  let fac1 := if grow ≠ 1 then timesA grow s.fac else s.fac
  ⟨Q.foldl (putQ (hG held x.2.2) (x.1 - x.2.1)) rest1, gput fac1 (x.1 - x.2.1) (hG held x.2.2), if grow ≠ 1 then s.scale * grow else s.scale⟩
theorem G_put (a : As) (k v k' : Int) : G (gput a k v) k' = if k = k' then v else G a k' := by
  unfold G
  rw [gget_gput]
  split <;> rfl
theorem G_times (g : Int) (a : As) (k : Int) : G (timesA g a) k = g * G a k := by
  induction a with
  | nil => show (0 : Int) = g * 0; omega
  | cons p a ih =>
    unfold G timesA at ih ⊢
    rw [List.map_cons]
    unfold gget
    by_cases e : p.1 = k
    · rw [if_pos e, if_pos e]; rfl
    · rw [if_neg e, if_neg e]; exact ih
theorem times_keys (g : Int) (a : As) : (timesA g a).map (·.1) = a.map (·.1) := by unfold timesA; rw [List.map_map]; rfl
def cq : List Pr → Int → Int
  | [], _ => 0
  | p :: ps, k => (if p.1 = k then p.2 else 0) + cq ps k
theorem G_fold (h m : Int) (k : Int) : ∀ (Q : List Pr) (r : As), G (Q.foldl (putQ h m) r) k = G r k - h * cq Q (k - m)
  | [], r => by show G r k = G r k - h * 0; omega
  | q :: Q, r => by
    rw [List.foldl_cons, G_fold h m k Q, putQ, G_put, cq, Int.mul_add]
    by_cases e : q.1 + m = k
    · rw [if_pos e, if_pos (by omega), e]; omega
    · rw [if_neg e, if_neg (by omega), Int.mul_zero]; omega
theorem fold_nodup (h m : Int) : ∀ (Q : List Pr) (r : As), (r.map (·.1)).Nodup → ((Q.foldl (putQ h m) r).map (·.1)).Nodup
  | [], r, nd => nd
  | q :: Q, r, nd => fold_nodup h m Q _ ((gput_keys _ _ _ nd).1)
theorem shG_ne {held c : Int} (hc : c ≠ 0) : shG held c ≠ 0 := by
  refine sgnD_ne ?_
  have : gcdI held c ∣ c := by rw [gcdI_eq]; exact Int.gcd_dvd_right ..
  have h0 := gcdI_nn held c
  by_cases z : gcdI held c = 0
  · rw [z] at this; exact absurd (Int.zero_dvd.mp this) hc
  · omega
theorem shG_dvdL (held c : Int) : shG held c ∣ held := sgnD_dvd (by rw [gcdI_eq]; exact Int.gcd_dvd_left ..)
theorem shG_dvdR (held c : Int) : shG held c ∣ c := sgnD_dvd (by rw [gcdI_eq]; exact Int.gcd_dvd_right ..)
theorem grow_mul {held c : Int} (hc : c ≠ 0) : growG held c * shG held c = c := fdiv_mul (shG_dvdR held c) (shG_ne hc)
theorem h_mul {held c : Int} (hc : c ≠ 0) : hG held c * shG held c = held := fdiv_mul (shG_dvdL held c) (shG_ne hc)
theorem cross {held c : Int} (hc : c ≠ 0) : growG held c * held = hG held c * c := by
  have h1 := grow_mul (held := held) hc
  have h2 := h_mul (held := held) hc
  calc growG held c * held = growG held c * (hG held c * shG held c) := by rw [h2]
    _ = hG held c * (growG held c * shG held c) := by rw [← Int.mul_assoc, ← Int.mul_assoc, Int.mul_comm (growG held c)]
    _ = hG held c * c := by rw [h1]
theorem grow_pos {held c : Int} (hc : c ≠ 0) : 0 < growG held c := by
  have h1 := grow_mul (held := held) hc
  have hp : 0 < gcdI held c := by
    have h0 := gcdI_nn held c
    have hn := shG_ne (held := held) hc
    by_cases z : gcdI held c = 0
    · exfalso; apply hn; unfold shG sgnD; rw [z]; split <;> rfl
    · omega
  by_cases z : 0 < growG held c
  · exact z
  exfalso
  have zn : growG held c ≤ 0 := by omega
  unfold shG sgnD at h1
  by_cases e : c < 0
  · rw [if_pos e] at h1
    have : 0 ≤ growG held c * -gcdI held c := Int.mul_nonneg_of_nonpos_of_nonpos zn (by omega)
    omega
  · rw [if_neg e] at h1
    have : growG held c * gcdI held c ≤ 0 := Int.mul_nonpos_of_nonpos_of_nonneg zn (by omega)
    omega
theorem coprime_hg {held c : Int} (hc : c ≠ 0) : Nat.gcd (hG held c).natAbs (growG held c).natAbs = 1 := by
  have h1 := grow_mul (held := held) hc
  have h2 := h_mul (held := held) hc
  have hn := shG_ne (held := held) hc
  have hg : (shG held c).natAbs = Nat.gcd held.natAbs c.natAbs := by
    have hp : 0 < gcdI held c := by
      have h0 := gcdI_nn held c
      by_cases z : gcdI held c = 0
      · exfalso; apply hn; unfold shG sgnD; rw [z]; split <;> rfl
      · omega
    unfold shG
    rw [sgnD_abs hp]; rfl
  have e1 : held.natAbs = (hG held c).natAbs * (shG held c).natAbs := by rw [← Int.natAbs_mul, h2]
  have e2 : c.natAbs = (growG held c).natAbs * (shG held c).natAbs := by rw [← Int.natAbs_mul, h1]
  rw [e1, e2, Nat.gcd_mul_right] at hg
  have hp : 0 < (shG held c).natAbs := Int.natAbs_pos.mpr hn
  have : 1 * (shG held c).natAbs = Nat.gcd (hG held c).natAbs (growG held c).natAbs * (shG held c).natAbs := by rw [Nat.one_mul]; exact hg
  exact (Nat.eq_of_mul_eq_mul_right hp this).symm
theorem dvd_out {d h g x : Int} (c : Nat.gcd h.natAbs g.natAbs = 1) (h1 : d ∣ h) (h2 : d ∣ g * x) : d ∣ x := by
  have a1 : d.natAbs ∣ h.natAbs := Int.natAbs_dvd_natAbs.mpr h1
  have a2 : d.natAbs ∣ g.natAbs * x.natAbs := by rw [← Int.natAbs_mul]; exact Int.natAbs_dvd_natAbs.mpr h2
  have cop : Nat.Coprime d.natAbs g.natAbs := Nat.Coprime.coprime_dvd_left a1 c
  exact Int.natAbs_dvd_natAbs.mp (cop.dvd_of_dvd_mul_left a2)
/-! ### one step -/
structure DInv (P Q : List Pr) (s : Sd) : Prop where
  nf : (s.fac.map (·.1)).Nodup
  nr : (s.rest.map (·.1)).Nodup
  pos : 0 < s.scale
  eq : ∀ k, s.scale * cq P k = wt (fun j => cq Q (k - j)) s.fac + G s.rest k
  one : ∀ d : Int, d ∣ s.scale → (∀ p ∈ s.fac, d ∣ p.2) → (∀ k, d ∣ G s.rest k) → d ∣ 1
theorem wt_times (g : Int) (f : Int → Int) : ∀ a : As, wt f (timesA g a) = g * wt f a
  | [] => by show (0 : Int) = g * 0; omega
  | p :: a => by
    have ih := wt_times g f a
    show g * p.2 * f p.1 + wt f (timesA g a) = g * (p.2 * f p.1 + wt f a)
    rw [ih, Int.mul_add, Int.mul_assoc]
theorem wt_last (f : Int → Int) (k v : Int) : ∀ a : As, wt f (a ++ [(k, v)]) = wt f a + v * f k
  | [] => by show v * f k + 0 = 0 + v * f k; omega
  | p :: a => by
    have ih := wt_last f k v a
    show p.2 * f p.1 + wt f (a ++ [(k, v)]) = p.2 * f p.1 + wt f a + v * f k
    rw [ih]; omega
theorem one_if (g : Int) (a : As) : (if g ≠ 1 then timesA g a else a) = timesA g a := by
  by_cases e : g = 1
  · rw [if_neg (by simpa using e), e]
    unfold timesA
    rw [show (fun p : Int × Int => (p.1, 1 * p.2)) = id from by funext p; rw [Int.one_mul]; rfl, List.map_id]
  · rw [if_pos e]
theorem one_if' (g s : Int) : (if g ≠ 1 then s * g else s) = s * g := by
  by_cases e : g = 1
  · rw [if_neg (by simpa using e), e, Int.mul_one]
  · rw [if_pos e]
theorem stepD_eq (Q : List Pr) (s : Sd) (x : Int × Pr) (h : G s.rest x.1 ≠ 0) : stepD Q s x = ⟨Q.foldl (putQ (hG (G s.rest x.1) x.2.2) (x.1 - x.2.1)) (timesA (growG (G s.rest x.1) x.2.2) s.rest), gput (timesA (growG (G s.rest x.1) x.2.2) s.fac) (x.1 - x.2.1) (hG (G s.rest x.1) x.2.2), s.scale * growG (G s.rest x.1) x.2.2⟩ := by
  unfold stepD
  simp only
  rw [if_neg h, one_if, one_if, one_if']
theorem step_inv {P Q : List Pr} {s : Sd} (I : DInv P Q s) {x : Int × Pr} (hc : x.2.2 ≠ 0) (hk : x.1 - x.2.1 ∉ s.fac.map (·.1)) : DInv P Q (stepD Q s x) := by
  by_cases h : G s.rest x.1 = 0
  · unfold stepD; simp only; rw [if_pos h]; exact I
  rw [stepD_eq Q s x h]
  generalize hg : growG (G s.rest x.1) x.2.2 = g
  generalize hh : hG (G s.rest x.1) x.2.2 = hq
  have gp : 0 < g := by rw [← hg]; exact grow_pos hc
  have cop : Nat.gcd hq.natAbs g.natAbs = 1 := by rw [← hg, ← hh]; exact coprime_hg hc
  have hk' : x.1 - x.2.1 ∉ (timesA g s.fac).map (·.1) := by rw [times_keys]; exact hk
  have e1 : gput (timesA g s.fac) (x.1 - x.2.1) hq = timesA g s.fac ++ [(x.1 - x.2.1, hq)] := gput_last hk'
  refine ⟨?_, ?_, Int.mul_pos I.pos gp, fun k => ?_, fun d d1 d2 d3 => ?_⟩
  · refine (gput_keys _ _ _ ?_).1
    rw [times_keys]; exact I.nf
  · refine fold_nodup _ _ _ _ ?_
    rw [times_keys]; exact I.nr
  · show s.scale * g * cq P k = wt _ (gput (timesA g s.fac) (x.1 - x.2.1) hq) + G (Q.foldl (putQ hq (x.1 - x.2.1)) (timesA g s.rest)) k
    rw [e1, wt_last, wt_times, G_fold, G_times]
    have e2 := I.eq k
    have e3 : s.scale * g * cq P k = g * (s.scale * cq P k) := by rw [Int.mul_comm s.scale g, Int.mul_assoc]
    rw [e3, e2, Int.mul_add]; omega
  · have d2' : ∀ p ∈ timesA g s.fac ++ [(x.1 - x.2.1, hq)], d ∣ p.2 := by rw [← e1]; exact d2
    have dh : d ∣ hq := d2' (x.1 - x.2.1, hq) (List.mem_append_right _ List.mem_cons_self)
    refine I.one d (dvd_out cop dh (by rw [Int.mul_comm]; exact d1)) (fun p hp => dvd_out cop dh (d2' (p.1, g * p.2) (List.mem_append_left _ (List.mem_map_of_mem (f := fun p : Int × Int => (p.1, g * p.2)) hp)))) fun k => ?_
    have d4 := d3 k
    have d4' : d ∣ G (Q.foldl (putQ hq (x.1 - x.2.1)) (timesA g s.rest)) k := d4
    rw [G_fold, G_times] at d4'
    have d5 : d ∣ hq * cq Q (k - (x.1 - x.2.1)) := Int.dvd_mul_of_dvd_left dh
    have d6 : d ∣ g * G s.rest k := by
      have := Int.dvd_add d4' d5
      rwa [Int.sub_add_cancel] at this
    exact dvd_out cop dh d6
end Go
set_option Elab.async false
set_option linter.all false
set_option maxRecDepth 100000
set_option maxHeartbeats 1000000
/-! All steps. -/
namespace Go
open PySem PySem.Spec PyProof.Rows L2 DL
structure PCan (P : List Pr) : Prop where
  lt : P.Pairwise (fun a b => a.1 < b.1)
  ne : ∀ p ∈ P, p.2 ≠ 0
def firstP : List Pr → Pr
  | [] => (0, 0)
  | p :: _ => p
def fstS (P : List Pr) : Int := (firstP P).1
def lastP : List Pr → Pr
  | [] => (0, 0)
  | [p] => p
  | _ :: p :: r => lastP (p :: r)
theorem PCan.tail {p : Pr} {P : List Pr} (h : PCan (p :: P)) : PCan P := ⟨(List.pairwise_cons.mp h.lt).2, fun q hq => h.ne q (List.mem_cons_of_mem _ hq)⟩
theorem lastP_mem : ∀ {P : List Pr}, P ≠ [] → lastP P ∈ P
  | [], h => absurd rfl h
  | [p], _ => List.mem_cons_self
  | _ :: p :: r, _ => List.mem_cons_of_mem _ (lastP_mem (P := p :: r) (by simp))
theorem firstP_mem {P : List Pr} (h : P ≠ []) : firstP P ∈ P := by
  cases P with
  | nil => exact absurd rfl h
  | cons p P => exact List.mem_cons_self
theorem fst_le {P : List Pr} (h : PCan P) {p : Pr} (hp : p ∈ P) : fstS P ≤ p.1 := by
  cases P with
  | nil => cases hp
  | cons q P =>
    show q.1 ≤ p.1
    rcases List.mem_cons.mp hp with e | e
    · rw [e]; exact Int.le_refl _
    · have := (List.pairwise_cons.mp h.lt).1 p e; omega
theorem le_last : ∀ {P : List Pr}, PCan P → ∀ {p : Pr}, p ∈ P → p.1 ≤ (lastP P).1
  | [], _, _, h => nomatch h
  | [q], _, p, h => by rw [List.mem_singleton.mp h]; exact Int.le_refl _
  | q :: a :: r, hc, p, h => by
    have ih : ∀ {p : Pr}, p ∈ a :: r → p.1 ≤ (lastP (a :: r)).1 := fun hp => le_last hc.tail hp
    show p.1 ≤ (lastP (a :: r)).1
    rcases List.mem_cons.mp h with e | e
    · have h1 := (List.pairwise_cons.mp hc.lt).1 a List.mem_cons_self
      have h2 := ih (p := a) List.mem_cons_self
      rw [e]; omega
    · exact ih e
theorem cq_none {P : List Pr} {k : Int} (h : ∀ q ∈ P, q.1 ≠ k) : cq P k = 0 := by
  induction P with
  | nil => rfl
  | cons q P ih =>
    rw [cq, if_neg (h q List.mem_cons_self), ih fun u hu => h u (List.mem_cons_of_mem _ hu)]; rfl
theorem cq_at : ∀ {P : List Pr}, PCan P → ∀ {p : Pr}, p ∈ P → cq P p.1 = p.2
  | [], _, _, hp => nomatch hp
  | q :: P, h, p, hp => by
    have hl := (List.pairwise_cons.mp h.lt).1
    rw [cq]
    rcases List.mem_cons.mp hp with e | e
    · rw [e, if_pos rfl, cq_none fun u hu z => by have := hl u hu; omega]; omega
    · have := hl p e
      rw [if_neg (by omega), cq_at h.tail e]; omega
theorem cq_low {P : List Pr} (h : PCan P) {k : Int} (hk : k < fstS P) : cq P k = 0 := cq_none fun q hq e => by have := fst_le h hq; omega
theorem cq_high {P : List Pr} (h : PCan P) {k : Int} (hk : (lastP P).1 < k) : cq P k = 0 := cq_none fun q hq e => by have := le_last h hq; omega
def spP (P : List Pr) : Int := (lastP P).1 - fstS P
def nTop (P Q : List Pr) (low : Int) : Nat := ((lastP P).1 - (low + spP Q - 1)).toNat
def nBot (P : List Pr) (low : Int) : Nat := (low - fstS P).toNat
def topX (P Q : List Pr) (n : Nat) : Int × Pr := ((lastP P).1 + (n : Int) * (-1), lastP Q)
def botX (P Q : List Pr) (n : Nat) : Int × Pr := (fstS P + (n : Int), firstP Q)
def stepsM (P Q : List Pr) (low : Int) : List (Int × Pr) := (List.range (nTop P Q low)).map (topX P Q) ++ (List.range (nBot P low)).map (botX P Q)
def begD (P : List Pr) : Sd := ⟨P, [], 1⟩
def runD (P Q : List Pr) (low : Int) : Sd := (stepsM P Q low).foldl (stepD Q) (begD P)
theorem step_fac {P Q : List Pr} {s : Sd} (I : DInv P Q s) (x : Int × Pr) {k : Int} (h : k ∈ (stepD Q s x).fac.map (·.1)) : k = x.1 - x.2.1 ∨ k ∈ s.fac.map (·.1) := by
  by_cases z : G s.rest x.1 = 0
  · unfold stepD at h; simp only at h; rw [if_pos z] at h; exact .inr h
  · rw [stepD_eq Q s x z] at h
    have h' : k ∈ (gput (timesA (growG (G s.rest x.1) x.2.2) s.fac) (x.1 - x.2.1) (hG (G s.rest x.1) x.2.2)).map (·.1) := h
    have := ((gput_keys (x.1 - x.2.1) (hG (G s.rest x.1) x.2.2) (timesA (growG (G s.rest x.1) x.2.2) s.fac) (by rw [times_keys]; exact I.nf)).2 k).mp h'
    rw [times_keys] at this
    exact this
theorem step_zero {Q : List Pr} {s : Sd} (x : Int × Pr) {k : Int} (z : G s.rest k = 0) (c : cq Q (k - (x.1 - x.2.1)) = 0) : G (stepD Q s x).rest k = 0 := by
  by_cases h : G s.rest x.1 = 0
  · unfold stepD; simp only; rw [if_pos h]; exact z
  · rw [stepD_eq Q s x h]
    show G (Q.foldl _ _) k = 0
    rw [G_fold, G_times, z, c, Int.mul_zero, Int.mul_zero]; rfl
theorem step_hit {Q : List Pr} {s : Sd} (x : Int × Pr) (hc : x.2.2 ≠ 0) (c : cq Q x.2.1 = x.2.2) : G (stepD Q s x).rest x.1 = 0 := by
  by_cases h : G s.rest x.1 = 0
  · unfold stepD; simp only; rw [if_pos h]; exact h
  · rw [stepD_eq Q s x h]
    show G (Q.foldl _ _) x.1 = 0
    rw [G_fold, G_times, show x.1 - (x.1 - x.2.1) = x.2.1 from by omega, c, cross hc]; omega
theorem fold_range {α β : Type} {f : Nat → α} {step : β → α → β} (I : Nat → β → Prop) : ∀ (N : Nat) (s0 : β), I 0 s0 → (∀ n s, n < N → I n s → I (n + 1) (step s (f n))) → I N (((List.range N).map f).foldl step s0)
  | 0, s0, h0, _ => h0
  | N + 1, s0, h0, hs => by
    rw [List.range_succ, List.map_append, List.foldl_append]
    exact hs N _ (Nat.lt_succ_self N) (fold_range I N s0 h0 fun n s hn h => hs n s (by omega) h)
/-! ### how large -/
structure BdS (n : Nat) (s : Sd) : Prop where
  sca : s.scale.natAbs < 2 ^ n
  fac : ∀ p ∈ s.fac, p.2.natAbs < 2 ^ n
  rest : ∀ k, (G s.rest k).natAbs < 2 ^ n
theorem fac_le {held c : Int} (hc : c ≠ 0) : (growG held c).natAbs ≤ c.natAbs ∧ (hG held c).natAbs ≤ held.natAbs := by
  have h1 := grow_mul (held := held) hc
  have h2 := h_mul (held := held) hc
  have hp : 1 ≤ (shG held c).natAbs := Int.natAbs_pos.mpr (shG_ne hc)
  constructor
  · rw [← h1, Int.natAbs_mul, h1]; exact Nat.le_mul_of_pos_right _ hp
  · rw [← h2, Int.natAbs_mul, h2]; exact Nat.le_mul_of_pos_right _ hp
theorem gput_mem {k v : Int} : ∀ {a : As} {p : Int × Int}, p ∈ gput a k v → p = (k, v) ∨ p ∈ a
  | [], p, h => .inl (List.mem_singleton.mp h)
  | q :: a, p, h => by
    unfold gput at h
    by_cases e : q.1 = k
    · rw [if_pos e] at h
      rcases List.mem_cons.mp h with z | z
      · exact .inl z
      · exact .inr (List.mem_cons_of_mem _ z)
    · rw [if_neg e] at h
      rcases List.mem_cons.mp h with z | z
      · exact .inr (by rw [z]; exact List.mem_cons_self)
      · rcases gput_mem z with y | y
        · exact .inl y
        · exact .inr (List.mem_cons_of_mem _ y)
theorem pow_le {a b : Nat} (h : a ≤ b) : 2 ^ a ≤ 2 ^ b := Nat.pow_le_pow_right (by decide) h
theorem mul_lt {i j : Int} {a b c : Nat} (ha : i.natAbs < 2 ^ a) (hb : j.natAbs < 2 ^ b) (h : a + b ≤ c) : (i * j).natAbs < 2 ^ c := Nat.lt_of_lt_of_le (wide_lt ha hb) (pow_le h)
theorem step_bd {Q : List Pr} {s : Sd} {n b : Nat} (x : Int × Pr) (hc : x.2.2 ≠ 0) (hb : x.2.2.natAbs < 2 ^ b) (hq : ∀ k, (cq Q k).natAbs < 2 ^ b) (B : BdS n s) : BdS (n + b + 1) (stepD Q s x) := by
  by_cases h : G s.rest x.1 = 0
  · unfold stepD; simp only; rw [if_pos h]
    have l := pow_le (show n ≤ n + b + 1 by omega)
    exact ⟨Nat.lt_of_lt_of_le B.sca l, fun p hp => Nat.lt_of_lt_of_le (B.fac p hp) l, fun k => Nat.lt_of_lt_of_le (B.rest k) l⟩
  · rw [stepD_eq Q s x h]
    obtain ⟨g1, h1⟩ := fac_le (held := G s.rest x.1) hc
    have gb : (growG (G s.rest x.1) x.2.2).natAbs < 2 ^ b := by omega
    have hh : (hG (G s.rest x.1) x.2.2).natAbs < 2 ^ n := Nat.lt_of_le_of_lt h1 (B.rest x.1)
    refine ⟨mul_lt B.sca gb (by omega), fun p hp => ?_, fun k => ?_⟩
    · rcases gput_mem hp with e | e
      · rw [e]; exact Nat.lt_of_lt_of_le hh (pow_le (by omega))
      · obtain ⟨q, hq', rfl⟩ := List.mem_map.mp e
        exact mul_lt gb (B.fac q hq') (by omega)
    · show (G (Q.foldl _ _) k).natAbs < _
      rw [G_fold, G_times]
      have a1 : (growG (G s.rest x.1) x.2.2 * G s.rest k).natAbs < 2 ^ (n + b) := mul_lt gb (B.rest k) (by omega)
      have a2 : (hG (G s.rest x.1) x.2.2 * cq Q (k - (x.1 - x.2.1))).natAbs < 2 ^ (n + b) := mul_lt hh (hq _) (by omega)
      have e2 : 2 ^ (n + b + 1) = 2 ^ (n + b) * 2 := Nat.pow_succ ..
      omega
/-! ### the two phases -/
structure TopI (P Q : List Pr) (low : Int) (b0 b n : Nat) (s : Sd) : Prop where
  inv : DInv P Q s
  keys : ∀ k ∈ s.fac.map (·.1), ∃ j : Nat, j < n ∧ k = (lastP P).1 - (j : Int) - (lastP Q).1
  high : ∀ k, (lastP P).1 - (n : Int) < k → G s.rest k = 0
  low : ∀ k, k < fstS P → k < low → G s.rest k = 0
  bd : BdS (b0 + n * (b + 1)) s
theorem G_self {P : List Pr} (h : PCan P) (k : Int) : G P k = cq P k := by
  induction P with
  | nil => rfl
  | cons p P ih =>
    have ih := ih h.tail
    unfold G gget cq
    by_cases e : p.1 = k
    · rw [if_pos e, if_pos e, cq_none fun q hq z => by have := (List.pairwise_cons.mp h.lt).1 q hq; omega]
      show p.2 = p.2 + 0; omega
    · rw [if_neg e, if_neg e, Int.zero_add]; exact ih
theorem nodup_can {P : List Pr} (h : PCan P) : (P.map (·.1)).Nodup := List.pairwise_map.mpr (h.lt.imp fun {a b} hab e => by omega)
theorem beg_inv {P : List Pr} (hP : PCan P) (Q : List Pr) : DInv P Q (begD P) := ⟨List.nodup_nil, nodup_can hP, by show (0 : Int) < 1; decide, fun k => by show 1 * cq P k = 0 + G P k; rw [G_self hP]; omega, fun d d1 _ _ => d1⟩
theorem top_all {P Q : List Pr} (hP : PCan P) (hQ : PCan Q) (nQ : Q ≠ []) (low : Int) {b0 b : Nat} (hb : ∀ k, (cq Q k).natAbs < 2 ^ b) (bl : (lastP Q).2.natAbs < 2 ^ b) (hb0 : ∀ k, (cq P k).natAbs < 2 ^ b0) (h1 : 1 ≤ b0) :
    TopI P Q low b0 b (nTop P Q low) (((List.range (nTop P Q low)).map (topX P Q)).foldl (stepD Q) (begD P)) := by
  have hl := hQ.ne _ (lastP_mem nQ)
  refine fold_range (TopI P Q low b0 b) _ _ ⟨beg_inv hP Q, (fun k hk => nomatch hk), fun k hk => ?_, fun k hk _ => ?_, ?_⟩ fun n s hn I => ?_
  · show G P k = 0
    rw [G_self hP]; exact cq_high hP (by omega)
  · show G P k = 0
    rw [G_self hP]; exact cq_low hP hk
  · rw [Nat.zero_mul, Nat.add_zero]
    refine ⟨?_, fun p hp => (nomatch hp), fun k => by show (G P k).natAbs < _; rw [G_self hP]; exact hb0 k⟩
    have := pow_le h1
    show (1 : Int).natAbs < _
    have e : (1 : Int).natAbs = 1 := rfl
    omega
  · have hx1 : (topX P Q n).1 = (lastP P).1 - (n : Int) := by show (lastP P).1 + (n : Int) * (-1) = _; omega
    have hx2 : (topX P Q n).2 = lastP Q := rfl
    have hat : low + spP Q ≤ (topX P Q n).1 := by
      rw [hx1]; unfold nTop at hn; omega
    refine ⟨step_inv I.inv (by rw [hx2]; exact hl) (fun z => ?_), fun k hk => ?_, fun k hk => ?_, fun k k1 k2 => ?_, ?_⟩
    · obtain ⟨j, hj, e⟩ := I.keys _ z
      rw [hx1, hx2] at e; omega
    · rcases step_fac I.inv _ hk with e | e
      · exact ⟨n, Nat.lt_succ_self n, by rw [e, hx1, hx2]⟩
      · obtain ⟨j, hj, e⟩ := I.keys _ e
        exact ⟨j, by omega, e⟩
    · by_cases e : k = (topX P Q n).1
      · rw [e]
        exact step_hit _ (by rw [hx2]; exact hl) (by rw [hx2]; exact cq_at hQ (lastP_mem nQ))
      · refine step_zero _ (I.high k (by omega)) (cq_high hQ ?_)
        rw [hx1, hx2]; omega
    · refine step_zero _ (I.low k k1 k2) (cq_low hQ ?_)
      rw [hx2]
      unfold spP at hat
      omega
    · have := step_bd (topX P Q n) (by rw [hx2]; exact hl) (by rw [hx2]; exact bl) hb I.bd
      rw [show b0 + (n + 1) * (b + 1) = b0 + n * (b + 1) + b + 1 from by rw [Nat.add_mul, Nat.one_mul]; omega]
      exact this
structure BotI (P Q : List Pr) (low : Int) (b0 b t n : Nat) (s : Sd) : Prop where
  inv : DInv P Q s
  keys : ∀ k ∈ s.fac.map (·.1), (low - fstS Q ≤ k ∧ k ≤ (lastP P).1 - (lastP Q).1) ∨ ∃ j : Nat, j < n ∧ k = fstS P + (j : Int) - fstS Q
  high : ∀ k, low + spP Q ≤ k → G s.rest k = 0
  low : ∀ k, k < fstS P + (n : Int) → k < low → G s.rest k = 0
  bd : BdS (b0 + (t + n) * (b + 1)) s
theorem run_all2 {P Q : List Pr} (hP : PCan P) (hQ : PCan Q) (nQ : Q ≠ []) (low : Int) {b0 b : Nat} (hb : ∀ k, (cq Q k).natAbs < 2 ^ b) (bq : ∀ q ∈ Q, q.2.natAbs < 2 ^ b) (hb0 : ∀ k, (cq P k).natAbs < 2 ^ b0) (h1 : 1 ≤ b0) :
    BotI P Q low b0 b (nTop P Q low) (nBot P low) (runD P Q low) := by
  have hl := hQ.ne _ (firstP_mem nQ)
  have T := top_all hP hQ nQ low hb (bq _ (lastP_mem nQ)) hb0 h1
  unfold runD stepsM
  rw [List.foldl_append]
  refine fold_range (BotI P Q low b0 b (nTop P Q low)) _ _ ⟨T.inv, fun k hk => ?_, fun k hk => ?_, fun k hk k2 => T.low k (by omega) k2, by rw [Nat.add_zero]; exact T.bd⟩ fun n s hn I => ?_
  · obtain ⟨j, hj, e⟩ := T.keys k hk
    left
    unfold nTop spP at hj
    constructor <;> omega
  · by_cases z : (lastP P).1 - ((nTop P Q low : Nat) : Int) < k
    · exact T.high k z
    · have : nTop P Q low = ((lastP P).1 - (low + spP Q - 1)).toNat := rfl
      refine T.high k ?_
      omega
  · have hx1 : (botX P Q n).1 = fstS P + (n : Int) := rfl
    have hx2 : (botX P Q n).2 = firstP Q := rfl
    have hf : fstS Q = (firstP Q).1 := rfl
    have hat : (botX P Q n).1 < low := by
      rw [hx1]; unfold nBot at hn; omega
    refine ⟨step_inv I.inv (by rw [hx2]; exact hl) (fun z => ?_), fun k hk => ?_, fun k hk => ?_, fun k k1 k2 => ?_, ?_⟩
    · rcases I.keys _ z with ⟨e, _⟩ | ⟨j, hj, e⟩
      · rw [hx1, hx2] at e; rw [hx1] at hat; omega
      · rw [hx1, hx2] at e; omega
    · rcases step_fac I.inv _ hk with e | e
      · exact .inr ⟨n, Nat.lt_succ_self n, by rw [e, hx1, hx2]; rfl⟩
      · rcases I.keys _ e with e | ⟨j, hj, e⟩
        · exact .inl e
        · exact .inr ⟨j, by omega, e⟩
    · refine step_zero _ (I.high k hk) (cq_high hQ ?_)
      rw [hx2]
      unfold spP at hk
      omega
    · by_cases e : k = (botX P Q n).1
      · rw [e]
        exact step_hit _ (by rw [hx2]; exact hl) (by rw [hx2]; exact cq_at hQ (firstP_mem nQ))
      · refine step_zero _ (I.low k (by rw [hx1] at e; omega) k2) (cq_low hQ ?_)
        rw [hx1, hx2]
        rw [hx1] at e
        omega
    · have := step_bd (botX P Q n) (by rw [hx2]; exact hl) (by rw [hx2]; exact bq _ (firstP_mem nQ)) hb I.bd
      rw [show b0 + (nTop P Q low + (n + 1)) * (b + 1) = b0 + (nTop P Q low + n) * (b + 1) + b + 1 from by rw [← Nat.add_assoc, Nat.add_mul _ 1, Nat.one_mul]; omega]
      exact this
end Go
set_option Elab.async false
set_option linter.all false
set_option maxRecDepth 100000
set_option maxHeartbeats 1000000
/-! What the defs of the law about sums come to. -/
namespace Go
open PySem PySem.Spec PyProof.Rows L2 DL
def tL (t : Tm) : D := .lst [.str t.1, .int t.2.1, .int t.2.2]
def tT (t : Tm) : D := .tup [.str t.1, .int t.2.1, .int t.2.2]
def pL (p : Pr) : D := .lst [.int p.1, .int p.2]
def pT (p : Pr) : D := .tup [.int p.1, .int p.2]
/-- terms, pairs, each a list or a tuple -/
inductive IsTms : List D → List Tm → Prop
  | nil : IsTms [] []
  | lst {t : Tm} {ds : List D} {ts : List Tm} (h : IsTms ds ts) : IsTms (tL t :: ds) (t :: ts)
  | tup {t : Tm} {ds : List D} {ts : List Tm} (h : IsTms ds ts) : IsTms (tT t :: ds) (t :: ts)
inductive IsPrs : List D → List Pr → Prop
  | nil : IsPrs [] []
  | lst {p : Pr} {ds : List D} {ps : List Pr} (h : IsPrs ds ps) : IsPrs (pL p :: ds) (p :: ps)
  | tup {p : Pr} {ds : List D} {ps : List Pr} (h : IsPrs ds ps) : IsPrs (pT p :: ds) (p :: ps)
def IsTerms (d : D) (ts : List Tm) : Prop := ∃ ds, IsTms ds ts ∧ (d = .lst ds ∨ d = .tup ds)
def IsPairs (d : D) (ps : List Pr) : Prop := ∃ ds, IsPrs ds ps ∧ (d = .lst ds ∨ d = .tup ds ∨ d = .tupZ ds)
def eTup (L : List Tm) : D := .tup (L.map tT)
def kk (k : Kk) : List Key := [.inr k.1, .inl k.2]
def eKs (L : List Tm) : List (List Key) := L.map fun t => kk (Tm.k t)
def eVs (L : List Tm) : List D := L.map fun t => .int t.2.2
def eDict (L : List Tm) : D := .dt (eKs L) (eVs L)
def ePoly (P : List Pr) : D := .tup (P.map pT)
def ePDict (P : List Pr) : D := .dk (P.map fun p => .inl p.1) (P.map fun p => .int p.2)
/-- bounds: coefficients below 2 ^ B -/
def Bd (B : Nat) (ts : List Tm) : Prop := ∀ t ∈ ts, t.2.2.natAbs < 2 ^ B
def BdP (B : Nat) (ps : List Pr) : Prop := ∀ p ∈ ps, p.2.natAbs < 2 ^ B
/-- names are texts that can be compared -/
def NOk (ts : List Tm) : Prop := ∀ t ∈ ts, PyData.strOk t.1 = true
/-! ### the package -/
def partM (L : List Tm) (n : Str) : List Pr := L.filterMap fun t => if t.1 = n then some (t.2.1, t.2.2) else none
/-- the rows of an ascending sum, each once -/
def rowsM : List Tm → List Str
  | [] => []
  | t :: ts => match rowsM ts with
    | [] => [t.1]
    | r :: rs => if t.1 = r then r :: rs else t.1 :: r :: rs
/-! ### the law's own -/
def ePolyZ (P : List Pr) : D := .tupZ (P.map pT)
def IsPoly (d : D) (P : List Pr) : Prop := d = ePoly P ∨ d = ePolyZ P
def fr_law_poly (ds : List D) (r : Res) : Prop := ∃ (d : D) (ps : List Pr), IsPairs d ps ∧ ps.length ≤ 4000000 ∧ ds = [d] ∧ r = .ok (ePDict (polyM ps))
def fr_law_is_poly (ds : List D) (r : Res) : Prop := ∃ (d : D) (P : List Pr), P.length ≤ 1000000 ∧ P.Pairwise (fun a b => a.1 < b.1) ∧ (∀ p ∈ P, p.2 ≠ 0) ∧ IsPoly d P ∧ ds = [d] ∧ r = .ok (.bl true)
def coefM (k a b : Int) : Int :=
  if k = 0 then 0 else if k < 5 then a % 9 - 4 else if k = 5 then (if a % 2 = 0 then 1 else -1) else if k = 6 then 6 * (a % 21 - 10) else if k = 7 then a % 2001 - 1000
  else if k = 8 then [1000000000, -1000000000, 999999999, -999999999, 999999937, -536870912].getD (a % 6).toNat 0
  else if k = 9 then (a + 100000 * b) % 2000000001 - 1000000000 else if k = 10 then a % 25 - 12 else 30030 * (a % 65 - 32)
def fr_law_coefficient (ds : List D) (r : Res) : Prop := ∃ k a b : Int, 0 ≤ a ∧ a < 100000 ∧ 0 ≤ b ∧ b < 100000 ∧ ds = [.int k, .int a, .int b] ∧ r = .ok (.int (coefM k a b))
theorem coefM_bound (k a b : Int) : (coefM k a b).natAbs ≤ 1000000000 := by
  unfold coefM
  repeat' split
  all_goals try omega
  have h : a % 6 = 0 ∨ a % 6 = 1 ∨ a % 6 = 2 ∨ a % 6 = 3 ∨ a % 6 = 4 ∨ a % 6 = 5 := by omega
  rcases h with h | h | h | h | h | h <;> rw [h] <;> decide
/-- what is passed: by its form -/
def mixT : List Tm → List D
  | a :: b :: c :: r => tT a :: tL b :: tL c :: r.map tT
  | [a, b] => [tT a, tL b]
  | [a] => [tT a]
  | [] => []
def mixP : List Pr → List D
  | a :: b :: c :: r => pT a :: pL b :: pL c :: r.map pT
  | [a, b] => [pT a, pL b]
  | [a] => [pT a]
  | [] => []
def passT (ts : List Tm) (f : Int) : D := if f = 0 then .lst (ts.map tL) else if f = 1 then .lst (ts.map tT) else if f = 2 then .tup (ts.map tL) else if f = 3 then .tup (ts.map tT) else .lst (mixT ts)
def passP (ps : List Pr) (f : Int) : D := if f = 0 then .lst (ps.map pL) else if f = 1 then .lst (ps.map pT) else if f = 2 then .tup (ps.map pL) else if f = 3 then .tup (ps.map pT) else .lst (mixP ps)
def fr_law_passed (ds : List D) (r : Res) : Prop := ∃ (ps : List Pr) (f : Int), ps.length ≤ 1000 ∧ ds = [.lst (ps.map pL), .int f] ∧ r = .ok (passP ps f)
theorem isTms_L : ∀ ts : List Tm, IsTms (ts.map tL) ts
  | [] => .nil
  | _ :: r => .lst (isTms_L r)
theorem isTms_T : ∀ ts : List Tm, IsTms (ts.map tT) ts
  | [] => .nil
  | _ :: r => .tup (isTms_T r)
theorem isPrs_L : ∀ ts : List Pr, IsPrs (ts.map pL) ts
  | [] => .nil
  | _ :: r => .lst (isPrs_L r)
theorem isPrs_T : ∀ ts : List Pr, IsPrs (ts.map pT) ts
  | [] => .nil
  | _ :: r => .tup (isPrs_T r)
theorem passT_is (ts : List Tm) (f : Int) : IsTerms (passT ts f) ts := by
  unfold passT
  split
  · exact ⟨_, isTms_L ts, .inl rfl⟩
  · split
    · exact ⟨_, isTms_T ts, .inl rfl⟩
    · split
      · exact ⟨_, isTms_L ts, .inr rfl⟩
      · split
        · exact ⟨_, isTms_T ts, .inr rfl⟩
        · refine ⟨_, ?_, .inl rfl⟩
          unfold mixT; split
          · exact .tup (.lst (.lst (isTms_T _)))
          · exact .tup (.lst .nil)
          · exact .tup .nil
          · exact .nil
theorem passP_is (ts : List Pr) (f : Int) : IsPairs (passP ts f) ts := by
  unfold passP
  split
  · exact ⟨_, isPrs_L ts, .inl rfl⟩
  · split
    · exact ⟨_, isPrs_T ts, .inl rfl⟩
    · split
      · exact ⟨_, isPrs_L ts, .inr (.inl rfl)⟩
      · split
        · exact ⟨_, isPrs_T ts, .inr (.inl rfl)⟩
        · refine ⟨_, ?_, .inl rfl⟩
          unfold mixP; split
          · exact .tup (.lst (.lst (isPrs_T _)))
          · exact .tup (.lst .nil)
          · exact .tup .nil
          · exact .nil
/-! ### what is drawn -/
def szN : List Int := [7] ++ (List.replicate 6 ([10, 26] ++ (List.replicate 9 [36]).flatten)).flatten
def szT : List Int := [12, 61, 41, 8, 16, 4, 6] ++ (List.replicate 60 [6, 41, 12, 100000, 100000]).flatten
def szP : List Int := [8, 41, 41, 4] ++ (List.replicate 40 [41, 12, 100000, 100000]).flatten
def signs : Str := "abcdefghijklmnopqrstuvwxyz0123456789"
def signAt (i : Int) : Str := ⟨#[(signs.cps.toList).getD i.toNat 0]⟩
def menusM : List (List Str) := [["a", "b", "c", "d", "e", "f"], ["x1", "x10", "x2", "x9", "x", "xx"], ["b", "aa", "ab1", "a9", "ba", "c"], ["level", "levels", "pump", "valve", "z", "aa"], ["z9z9z9z9z9", "z9z9z9z9z", "z", "za", "z0", "zz"]]
def fullM (row : List Int) (k : Nat) : Str := signAt (nth row (2 + 11 * k)) ++ Txt.join "" ((List.range 9).map fun j => signAt (nth row (3 + 11 * k + j)))
def namesM (c : Int) : List Str :=
  let row := digM c szN
  if nth row 0 < 5 then menusM.getD (nth row 0).toNat [] else (List.range 6).map fun k => cutS (fullM row k) none (some (1 + nth row (1 + 11 * k)))
def manyT (row : List Int) : Int :=
  let menu := [nth row 1, 60, nth row 1 % 17, 2 + nth row 1 % 9, nth row 1 % 3]
  nth menu (nth [0, 1, 2, 2, 2, 3, 3, 3, 3, 3, 3, 4] (nth row 0).toNat).toNat
def baseT (ns : List Str) (row : List Int) : List Tm := (List.range (manyT row).toNat).map fun k =>
  (ns.getD (nth row (7 + 5 * k) % (1 + nth row 6)).toNat "", (nth row 2 + nth row (8 + 5 * k) % nth [2, 3, 4, 5, 6, 8, 1, 41] (nth row 3).toNat) % 41 - 20, coefM (nth row (9 + 5 * k)) (nth row (10 + 5 * k)) (nth row (11 + 5 * k)))
def negT (ts : List Tm) : List Tm := ts.map fun t => (t.1, t.2.1, -t.2.2)
def sclT (f : Int) (ts : List Tm) : List Tm := ts.map fun t => (t.1, t.2.1, t.2.2 * f)
def facT (row : List Int) : Int := nth [2, -3, 1000, 12] (nth row 5).toNat
def drawnM (ns : List Str) (row : List Int) : List Tm :=
  let ts := baseT ns row
  let many := manyT row
  if nth row 4 = 0 ∧ 2 * many ≤ 60 then ts ++ negT ts
  else if nth row 4 = 1 ∧ 2 * many ≤ 60 then negT (ts.take (many / 2).toNat) ++ ts
  else if nth row 4 = 2 ∧ (∀ t ∈ ts, (t.2.2 * facT row).natAbs ≤ 1000000000) then sclT (facT row) ts
  else ts
def rawM (ns : List Int) (k : Nat) (names : List Str) : List Tm := drawnM names (digM (cellM ns k) szT)
def otherM (ts : List Tm) (d : Int) (ns : List Str) : List Tm :=
  if d = 0 ∧ 2 * ts.length ≤ 60 then (ts.map fun t => (t.1, t.2.1, t.2.2 - t.2.2 / 2)) ++ ts.map fun t => (t.1, t.2.1, t.2.2 / 2)
  else if d = 1 ∧ ts.length + 2 ≤ 60 then [(ns.getD 5 "", 20, 0)] ++ ts ++ [(ns.getD 4 "", -20, 0)]
  else ts.reverse
def manyP (row : List Int) : Int := nth [nth row 1, nth row 1 % 9, nth row 1 % 5, 1] (nth [0, 1, 1, 2, 2, 2, 3, 3] (nth row 0).toNat).toNat
def pairsM (c : Int) : List Pr :=
  let row := digM c szP
  (List.range (manyP row).toNat).map fun k => ((nth row 2 + nth row (4 + 4 * k) % nth [2, 3, 5, 41] (nth row 3).toNat) % 41 - 20, coefM (nth row (5 + 4 * k)) (nth row (6 + 4 * k)) (nth row (7 + 4 * k)))
end Go
set_option Elab.async false
set_option linter.all false
set_option maxRecDepth 100000
set_option maxHeartbeats 1000000
/-! What the defs of the law about division come to. -/
namespace Go
open PySem PySem.Spec PyProof.Rows L2 DL
def mulP (ps qs : List Pr) : List Pr := ps.flatMap fun p => qs.map fun q => (p.1 + q.1, p.2 * q.2)
structure Sp (P : List Pr) : Prop where
  lo : -100 ≤ fstS P
  hi : (lastP P).1 ≤ 100
def divF (P Q : List Pr) (low : Int) : List Pr := polyM (runD P Q low).fac
def divR (P Q : List Pr) (low : Int) : List Pr := polyM (runD P Q low).rest
def eDiv (P Q : List Pr) (low : Int) : D := if P = [] then .tup [.int 1, .tup [], .tup []] else .tup [.int (runD P Q low).scale, ePolyZ (divF P Q low), ePolyZ (divR P Q low)]
def frcleaned (ds : List D) (r : Res) : Prop := ∃ (d : D) (ps : List Pr), IsPairs d ps ∧ ps.length ≤ 4000000 ∧ ds = [d] ∧ r = .ok (ePolyZ (polyM ps))
def frspread (ds : List D) (r : Res) : Prop := ∃ (d : D) (P : List Pr), IsPoly d P ∧ P ≠ [] ∧ ds = [d] ∧ r = .ok (.int (spP P))
structure DOk (P Q : List Pr) (low : Int) : Prop where
  cp : PCan P
  cq : PCan Q
  nq : Q ≠ []
  lp : P.length ≤ 5000
  lq : Q.length ≤ 5000
  sp : Sp P
  sq : Sp Q
  lw : -100 ≤ low ∧ low ≤ 100
  bp : BdP 100000 P
  bq : BdP 8000 Q
def frdivided (ds : List D) (r : Res) : Prop := ∃ (d : D) (P Q : List Pr) (low : Int), DOk P Q low ∧ IsPoly d Q ∧ ds = [ePolyZ P, d, .int low] ∧ r = .ok (eDiv P Q low)
def frpoly_divided (K : PySem.W.Frag) (ds : List D) (r : Res) : Prop := ∃ (d e : D) (ps qs : List Pr), IsPairs d ps ∧ IsPairs e qs ∧ ps.length ≤ 100000 ∧ qs.length ≤ 100000 ∧ ds = [d, e] ∧ ((DOk (polyM ps) (polyM qs) 0 ∧ r = .ok (eDiv (polyM ps) (polyM qs) 0)) ∨ (polyM qs = [] ∧ r = .er (He.ga K "ZeroPolynomial") []))
def dvs (P Q : List Pr) : Bool := if Q = [] then P.isEmpty else if P = [] then true else (divR P Q 0).isEmpty
def frdivides (ds : List D) (r : Res) : Prop := ∃ (d e : D) (ps qs : List Pr), IsPairs d ps ∧ IsPairs e qs ∧ ps.length ≤ 100000 ∧ qs.length ≤ 100000 ∧ (polyM qs = [] ∨ DOk (polyM ps) (polyM qs) 0) ∧ ds = [e, d] ∧ r = .ok (.bl (dvs (polyM ps) (polyM qs)))
/-! ### the law's own -/
def fr_law_add (ds : List D) (r : Res) : Prop := ∃ P Q : List Pr, PCan P ∧ PCan Q ∧ P.length ≤ 1000000 ∧ Q.length ≤ 1000000 ∧ BdP 20000000 Q ∧ ds = [ePDict P, ePDict Q, .int 1] ∧ r = .ok (ePDict (polyM (P ++ Q)))
def fr_law_mul (ds : List D) (r : Res) : Prop := ∃ P Q : List Pr, PCan P ∧ PCan Q ∧ P.length ≤ 1000 ∧ Q.length ≤ 1000 ∧ BdP 20000000 P ∧ BdP 20000000 Q ∧ ds = [ePDict P, ePDict Q] ∧ r = .ok (ePDict (polyM (mulP P Q)))
def szR : List Int := [12, 41, 41, 8, 24, 4] ++ (List.replicate 40 [41, 12, 100000, 100000]).flatten
def menuR (row : List Int) : List Int := [nth row 1, 40, nth row 1 % 13, 2 + nth row 1 % 6, nth row 1 % 3]
def manyR (row : List Int) : Int := nth (menuR row) (nth [0, 1, 2, 2, 3, 3, 3, 3, 3, 3, 3, 4] (nth row 0).toNat).toNat
def wideR (row : List Int) : Int := nth [3, 4, 5, 6, 8, 12, 1, 41] (nth row 3).toNat
def facQ (row : List Int) : Int := nth [2, -3, 1000, 12] (nth row 5).toNat
def pairR (row : List Int) (k : Nat) : Pr := ((nth row 2 + nth row (6 + 4 * k) % wideR row) % 41 - 20, coefM (nth row (6 + 4 * k + 1)) (nth row (6 + 4 * k + 2)) (nth row (6 + 4 * k + 3)))
def baseR (row : List Int) : List Pr := (List.range (manyR row).toNat).map (pairR row)
def negP (ps : List Pr) : List Pr := ps.map fun p => (p.1, -p.2)
def sclP (f : Int) (ps : List Pr) : List Pr := ps.map fun p => (p.1, p.2 * f)
def drawnR (row : List Int) : List Pr := let b := baseR row
  if nth row 4 = 0 ∧ 2 * manyR row ≤ 40 then b ++ negP b else if nth row 4 = 1 ∧ 2 * manyR row ≤ 40 then negP (b.take (manyR row / 2).toNat) ++ b
  else if nth row 4 = 2 ∧ (∀ p ∈ b, (p.2 * facQ row).natAbs ≤ 1000000000) then sclP (facQ row) b else b
def fr_law_drawn (ds : List D) (r : Res) : Prop := ∃ row : List Int, rowOk szR row ∧ ds = [.lst (row.map D.int)] ∧ r = .ok (.lst ((drawnR row).map pL))
def rawP (ns : List Int) (k : Nat) : List Pr := drawnR (digM (cellM ns k) szR)
def fr_law_raw (ds : List D) (r : Res) : Prop := ∃ (ns : List Int) (k : Nat), k ≤ 100000 ∧ ds = [.scr ns, .int (k : Int)] ∧ r = .ok (.lst ((rawP ns k).map pL))
def smallP (row : List Int) (n : Nat) : List Pr := (List.range n).map fun k => (nth row (1 + 2 * k) - 4, nth row (2 + 2 * k) - 12)
def fr_law_small (ds : List D) (r : Res) : Prop := ∃ (row : List Int) (n : Nat), n ≤ 1000 ∧ 2 * n < row.length + 1 ∧ (∀ k, k < n → 2 + 2 * k < row.length) ∧ ds = [.lst (row.map D.int), .int (n : Int)] ∧ r = .ok (ePDict (polyM (smallP row n)))
def otzP (P : List Pr) : List Pr := if P = [] then [(0, 1)] else P
def fr_law_other_than_zero (ds : List D) (r : Res) : Prop := ∃ P : List Pr, ds = [ePDict P] ∧ r = .ok (ePDict (otzP P))
def farP (p : Pr) : Prop := 20 < (p.1.natAbs : Int) ∨ 1000000000 < (p.2.natAbs : Int)
instance (p : Pr) : Decidable (farP p) := by unfold farP; infer_instance
def keptP (P ps : List Pr) : List Pr := if 40 < P.length then ps else if ∃ p ∈ P, farP p then ps else P
def fr_law_kept (ds : List D) (r : Res) : Prop := ∃ P ps : List Pr, PCan P ∧ P.length ≤ 1000000 ∧ ds = [ePDict P, .lst (ps.map pL)] ∧ r = .ok (.lst ((keptP P ps).map pL))
def szW : List Int := [14, 8, 17] ++ [5] ++ (List.replicate 5 [9, 25]).flatten ++ [4] ++ (List.replicate 5 [9, 25]).flatten ++ [4] ++ (List.replicate 3 [9, 25]).flatten ++ [5, 5]
def factW (row : List Int) : Int := nth [2, 3, -1, -6, 10, 1, 7, 360] (nth row 1).toNat
def fW (row : List Int) : List Pr := otzP (polyM (smallP ((row.drop 3).take 11) (1 + nth row 3).toNat))
def qW (row : List Int) : List Pr := otzP (polyM (smallP ((row.drop 14).take 11) (2 + nth row 14).toNat))
def bothW (row : List Int) : List Pr := polyM (mulP (fW row) (qW row))
def restW (row : List Int) : List Pr := polyM (bothW row ++ polyM (smallP ((row.drop 25).take 7) (nth row 25).toNat))
def oneW (row : List Int) : Pr := (nth row 2 - 8, factW row)
def twoP (a b : List Pr) (row : List Int) : List Pr × List Pr :=
  if nth row 0 = 0 then (keptP (bothW row) a, keptP (polyM (mulP (qW row) [oneW row])) b)
  else if nth row 0 = 1 then (keptP (qW row) a, keptP (bothW row) b)
  else if nth row 0 < 5 then (keptP (restW row) a, keptP (qW row) b)
  else if nth row 0 = 5 then (a, [oneW row])
  else if nth row 0 = 6 then (a, [(3, factW row), (3, -factW row)])
  else if nth row 0 = 7 then ([(0, 0)], if nth row 2 < 4 then [] else b)
  else if nth row 0 = 8 then (keptP (polyM (mulP (polyM b) [oneW row])) a, b)
  else (a, b)
structure InP (ps : List Pr) : Prop where
  len : ps.length ≤ 80
  sh : ∀ p ∈ ps, -20 ≤ p.1 ∧ p.1 ≤ 20
  bd : BdP 30 ps
def fr_law_two (ds : List D) (r : Res) : Prop := ∃ (a b : List Pr) (row : List Int), InP a ∧ InP b ∧ rowOk szW row ∧ ds = [.lst (a.map pL), .lst (b.map pL), .lst (row.map D.int)] ∧ r = .ok (.lst [.lst ((twoP a b row).1.map pL), .lst ((twoP a b row).2.map pL)])
def fr_law_another (K : PySem.W.Frag) (a C : Addr) (ds : List D) (r : Res) : Prop := C = He.ga K "ZeroPolynomial" ∧ ds = [.cls a] ∧ r = .ok (.bl false)
def fr_law_refused (ds : List D) (r : Res) : Prop := ∃ (d e : D) (ps qs : List Pr), IsPairs d ps ∧ IsPairs e qs ∧ ps.length ≤ 100000 ∧ qs.length ≤ 100000 ∧ polyM qs = [] ∧ ds = [d, e] ∧ r = .ok (.bl true)
def fr_law_divided (ds : List D) (r : Res) : Prop := ∃ P Q : List Pr, DOk P Q 0 ∧ P.length ≤ 1000 ∧ Q.length ≤ 1000 ∧ ds = [eDiv P Q 0, ePDict P, ePDict Q] ∧ r = .ok (.bl true)
def eTold (P Q : List Pr) : D := if Q = [] then .tup [] else eDiv P Q 0
def fr_law_told (ds : List D) (r : Res) : Prop := ∃ (d e : D) (ps qs : List Pr), IsPairs d ps ∧ IsPairs e qs ∧ ps.length ≤ 1000 ∧ qs.length ≤ 1000 ∧ (polyM qs = [] ∨ DOk (polyM ps) (polyM qs) 0) ∧ ds = [d, e, ePDict (polyM ps), ePDict (polyM qs)] ∧ r = .ok (eTold (polyM ps) (polyM qs))
def frlaw (ds : List D) (r : Res) : Prop := ∃ ns : List Int, ns.length ≤ 100000 ∧ ds = [.scr ns] ∧ r = .ok (.bl true)
/-- what the written part says of the classes -/
structure KF (K : PySem.W.Frag) : Prop where
  ex : ExcC K (He.ga K "ZeroPolynomial")
  m1 : PySem.W.exmOne K (.ref (He.ga K "ZeroPolynomial")) (.ref (He.ga K "ZeroPolynomial")) = some true
  m2 : PySem.W.exmOne K (.ref (He.ga K "ZeroPolynomial")) (.ref (He.ga K "RowError")) = some true
  i1 : PySem.W.kitOne K (.ref (He.ga K "ZeroPolynomial")) (.ref (He.ga K "RowError")) = some true
  i2 : PySem.W.kitOne K (.ref (He.ga K "ZeroPolynomial")) (.type "ValueError") = some true
  i3 : PySem.W.kitOne K (.ref (He.ga K "ZeroPolynomial")) (.ref (He.ga K "ZeroPolynomial")) = some true
  an : PySem.W.kitAny K (.ref (He.ga K "ZeroPolynomial")) ((["BadName", "BadNotation", "BadParts", "BadStretch", "Barred", "BreaksOwnRule", "Broken", "CannotStand", "Contradiction", "NoFamilies", "NoQuotient", "NoRows", "NotBlocked", "NotCourse", "NotEntered", "NotFinite", "NotFree", "NotLet", "NotStricter", "NotTimely", "NothingToUndo", "RowTwice", "RowsDiffer", "ShortStretch", "SpotTwice", "TooLong", "UnknownRow", "Unsure", "ZeroSum"] : List Str).map fun x => .ref (He.ga K x)) = some false
end Go
set_option Elab.async false
set_option linter.all false
set_option maxRecDepth 100000
set_option maxHeartbeats 4000000
namespace Go
open PySem PySem.Spec PyProof.Rows L2 DL
def tcleaned (K : PySem.W.Frag) (W : WX) : TS :=
  (tSeq (tAsg tDNewK (gName 1))
    (tSeq (tFor (iSeq K (tVar 0)) (gSeqA K 2 (gCons (gName 2) (gCons (gName 3) gNil))) (sDPut (tVar 1) (tVar 2) (tOp (rAddA K) (tDGet2 (tVar 1) (tVar 2) (tC (.int 0))) (tVar 3))))
    (tRet (tCB (rTupZ K) (tCons (tLc (iSeq K (tCB rSortK (tCons (tVar 1) tNil))) (gName 2) (tTest (tOp (rNeD K) (tDGet (tVar 1) (tVar 2)) (tC (.int 0)))) (tTup (tCons (tVar 2) (tCons (tDGet (tVar 1) (tVar 2)) tNil))) [2]) tNil)))))
theorem calcleaned {P : Program} {w : World} {K : PySem.W.Frag} {mg : Str → Option Value} {base : Heap} (A : FunAt K mg "cleaned" scleaned Pcleaned) (B : Bt K mg)
    (pr : ∀ W ds r, frcleaned ds r → FnEnd K W (tcleaned K W) (entry Ncleaned ds) r) : Cal P w K mg base 1 "cleaned" Pcleaned frcleaned := by
  have sc := sccleaned
  refine cal_of A sc _ fun f cdv A outer s H E hr => ⟨tcleaned K (wD E), ?_, fun ds r h _ => pr _ ds r h⟩
  have tk : L2N.Takes (cxD P w K mg base Ncleaned "cleaned" scleaned f cdv A outer s H E) (wD E) := L2N.takes_of rfl rfl rfl rfl
  have hp : PassesOwn (model P w) (cxD P w K mg base Ncleaned "cleaned" scleaned f cdv A outer s H E).A (cxD P w K mg base Ncleaned "cleaned" scleaned f cdv A outer s H E).env (cxD P w K mg base Ncleaned "cleaned" scleaned f cdv A outer s H E).xe := passes_of rfl
  exact (pss_cons (ps_set (i := 1) sc.nd rfl (Or.inr rfl) pe_dnewK)
    (pss_cons (ps_for hp rfl (pi_seq (pv 0)) (pg_seqA rfl (pgs_cons (pg_name (i := 2) sc.nd rfl (Or.inl rfl)) (pgs_cons (pg_name (i := 3) sc.nd rfl (Or.inl rfl)) pgs_nil))) (pss_one (ps_dput (hu_of hr) (pv 1) (pv 2) (pe_op opA_add (pe_dget2 (hu_of hr) (pv 1) (pv 2) pe_int ⟨rfl, rfl, rfl, rfl⟩) (pv 3)) rfl)))
    (pss_one (ps_ret (pe_callTy call_tuple_ofZ (by rfl) B.b_tuple (by decide +kernel) (pa_cons (pe_lc (own := [("shift", 2)]) (tt := (tTest (tOp (rNeD K) (tDGet (tVar 1) (tVar 2)) (tC (.int 0))))) rfl sc.nd (pi_seq (pe_callB (cr_sortK rfl hr.units) (by rfl) B.b_sorted (by decide +kernel) (pa_cons (pv 1) pa_nil))) (blkOk_by (N := Ncleaned) (sc := defScope scleaned) (by decide +kernel)) (fun _ _ _ _ _ => (pg_name (i := 2) sc.nd rfl (Or.inl rfl))) (fun _ _ _ _ _ => (pts_one (pt_cmpR (op_neD hr.units) (pe_dget (hu_of hr) (pv 1) (pv 2) (fun _ _ => rfl)) pe_int (nomark _)))) (fun _ _ _ _ _ => (pe_tup (pa_cons (pv 2) (pa_cons (pe_dget (hu_of hr) (pv 1) (pv 2) (fun _ _ => rfl)) pa_nil))))) pa_nil))))))
def tspread (K : PySem.W.Frag) (W : WX) : TS :=
  (tRet (tOp (rI0 fun i j => .int (i - j)) (tOp (rIxA K) (tOp (rIxA K) (tVar 0) (tUn (rU fun i => .int (-i)) (tC (.int 1)))) (tC (.int 0))) (tOp (rIxA K) (tOp (rIxA K) (tVar 0) (tC (.int 0))) (tC (.int 0)))))
theorem calspread {P : Program} {w : World} {K : PySem.W.Frag} {mg : Str → Option Value} {base : Heap} (A : FunAt K mg "spread" sspread Pspread) (B : Bt K mg)
    (pr : ∀ W ds r, frspread ds r → FnEnd K W (tspread K W) (entry Nspread ds) r) : Cal P w K mg base 1 "spread" Pspread frspread := by
  have sc := scspread
  refine cal_of A sc _ fun f cdv A outer s H E hr => ⟨tspread K (wD E), ?_, fun ds r h _ => pr _ ds r h⟩
  have tk : L2N.Takes (cxD P w K mg base Nspread "spread" sspread f cdv A outer s H E) (wD E) := L2N.takes_of rfl rfl rfl rfl
  have hp : PassesOwn (model P w) (cxD P w K mg base Nspread "spread" sspread f cdv A outer s H E).A (cxD P w K mg base Nspread "spread" sspread f cdv A outer s H E).env (cxD P w K mg base Nspread "spread" sspread f cdv A outer s H E).xe := passes_of rfl
  exact (pss_one (ps_ret (pe_op op_sub (pe_ix ix_any (pe_ix ix_any (pv 0) (pe_un un_neg pe_int) (fun _ _ => rfl)) pe_int (fun _ _ => rfl)) (pe_ix ix_any (pe_ix ix_any (pv 0) pe_int (fun _ _ => rfl)) pe_int (fun _ _ => rfl)))))
def tdivided (K : PySem.W.Frag) (W : WX) : TS :=
  (tSeq (tIfS (tNot (tTru K (tVar 0))) (tRet (tTup (tCons (tC (.int 1)) (tCons (tTup tNil) (tCons (tTup tNil) tNil))))) tNext)
    (tSeq (tAsg (tLc (iRng3 (tCons (tOp (rIxA K) (tOp (rIxA K) (tVar 0) (tUn (rU fun i => .int (-i)) (tC (.int 1)))) (tC (.int 0))) (tCons (tOp (rI0 fun i j => .int (i - j)) (tOp (rAddA K) (tVar 2) (tCallS (SpF K Pspread.length frspread) (WE W) (tCons (tVar 1) tNil))) (tC (.int 1))) (tCons (tUn (rU fun i => .int (-i)) (tC (.int 1))) tNil)))) (gName 4) tYes (tTup (tCons (tVar 4) (tCons (tOp (rIxA K) (tVar 1) (tUn (rU fun i => .int (-i)) (tC (.int 1)))) tNil))) [4]) (gName 3))
    (tSeq (tAsg (tOp (rAddA K) (tVar 3) (tLc (iRng2 (tCons (tOp (rIxA K) (tOp (rIxA K) (tVar 0) (tC (.int 0))) (tC (.int 0))) (tCons (tVar 2) tNil))) (gName 4) tYes (tTup (tCons (tVar 4) (tCons (tOp (rIxA K) (tVar 1) (tC (.int 0))) tNil))) [4])) (gName 3))
    (tSeq (tAsg (tCB (rDictT K) (tCons (tVar 0) tNil)) (gName 5))
    (tSeq (tAsg tDNewK (gName 6))
    (tSeq (tAsg (tC (.int 1)) (gName 7))
    (tSeq (tFor (iSeq K (tVar 3)) (gSeqA K 2 (gCons (gName 4) (gCons (gSeqA K 2 (gCons (gName 8) (gCons (gName 9) gNil))) gNil))) (tSeq (tAsg (tDGet2 (tVar 5) (tVar 4) (tC (.int 0))) (gName 10))
    (tSeq (tIfS (tTest (tOp (rEqD K) (tVar 10) (tC (.int 0)))) tCont tNext)
    (tSeq (tAsg (tCB rGcd (tCons (tVar 10) (tCons (tVar 9) tNil))) (gName 11))
    (tSeq (tIfS (tTest (tOp (rI0 fun i j => .bl (decide (i < j))) (tVar 9) (tC (.int 0)))) (tAsg (tUn (rU fun i => .int (-i)) (tVar 11)) (gName 11)) tNext)
    (tSeq (tAsg (tOp rDivA (tVar 9) (tVar 11)) (gName 12))
    (tSeq (tIfS (tTest (tOp (rNeD K) (tVar 12) (tC (.int 1)))) (tSeq (tAsg (tLockEA (tDc (iSeq K (tVar 5)) (gName 13) tYes (tVar 13) (tOp rMulA (tVar 12) (tDGet (tVar 5) (tVar 13))) [13])) (gName 5))
    (tSeq (tAsg (tLockEA (tDc (iSeq K (tVar 6)) (gName 13) tYes (tVar 13) (tOp rMulA (tVar 12) (tDGet (tVar 6) (tVar 13))) [13])) (gName 6))
    (tAsg (tOp rMulA (tVar 7) (tVar 12)) (gName 7)))) tNext)
    (tSeq (sDPut (tVar 6) (tOp (rI0 fun i j => .int (i - j)) (tVar 4) (tVar 8)) (tOp rDivA (tVar 10) (tVar 11)))
    (tFor (iSeq K (tVar 1)) (gSeqA K 2 (gCons (gName 13) (gCons (gName 14) gNil))) (tSeq (tAsg (tOp (rI0 fun i j => .int (i - j)) (tOp (rAddA K) (tVar 13) (tVar 4)) (tVar 8)) (gName 15))
    (sDPut (tVar 5) (tVar 15) (tOp (rI0 fun i j => .int (i - j)) (tDGet2 (tVar 5) (tVar 15) (tC (.int 0))) (tOp rMulA (tOp rDivA (tVar 10) (tVar 11)) (tVar 14))))))))))))))
    (tRet (tTup (tCons (tVar 7) (tCons (tCallS (SpF K Pcleaned.length frcleaned) (WE W) (tCons (tItemsR (tVar 6)) tNil)) (tCons (tCallS (SpF K Pcleaned.length frcleaned) (WE W) (tCons (tItemsR (tVar 5)) tNil)) tNil))))))))))))
theorem caldivided {P : Program} {w : World} {K : PySem.W.Frag} {mg : Str → Option Value} {base : Heap} (A : FunAt K mg "divided" sdivided Pdivided) (B : Bt K mg) (cspread : Cal P w K mg base 1 "spread" Pspread frspread) (ccleaned : Cal P w K mg base 1 "cleaned" Pcleaned frcleaned)
    (pr : ∀ W ds r, frdivided ds r → FnEnd K W (tdivided K W) (entry Ndivided ds) r) : Cal P w K mg base 2 "divided" Pdivided frdivided := by
  have sc := scdivided
  refine cal_of A sc _ fun f cdv A outer s H E hr => ⟨tdivided K (wD E), ?_, fun ds r h _ => pr _ ds r h⟩
  have tk : L2N.Takes (cxD P w K mg base Ndivided "divided" sdivided f cdv A outer s H E) (wD E) := L2N.takes_of rfl rfl rfl rfl
  have hp : PassesOwn (model P w) (cxD P w K mg base Ndivided "divided" sdivided f cdv A outer s H E).A (cxD P w K mg base Ndivided "divided" sdivided f cdv A outer s H E).env (cxD P w K mg base Ndivided "divided" sdivided f cdv A outer s H E).xe := passes_of rfl
  exact (pss_cons (ps_if (pt_not (pt_truth2 (pv 0))) (pss_one (ps_ret (pe_tup (pa_cons pe_int (pa_cons (pe_tup pa_nil) (pa_cons (pe_tup pa_nil) pa_nil)))))) pss_nil)
    (pss_cons (ps_setLc (i := 3) (own := [("at", 4)]) (tt := tYes) rfl sc.nd rfl rfl (sw_true rfl rfl rfl (by decide +kernel)) (pi_range3 (by rfl) B.b_range (pa_cons (pe_ix ix_any (pe_ix ix_any (pv 0) (pe_un un_neg pe_int) (fun _ _ => rfl)) pe_int (fun _ _ => rfl)) (pa_cons (pe_op op_sub (pe_op opA_add (pv 2) (pe_callD cspread (hr.mono (by decide)) (by rfl) tk (pa_cons (pv 1) pa_nil))) pe_int) (pa_cons (pe_un un_neg pe_int) pa_nil)))) (blkOk_by (N := Ndivided) (sc := defScope sdivided) (by decide +kernel)) (fun _ _ _ _ _ => (pg_name (i := 4) sc.nd rfl (Or.inl rfl))) (fun _ _ _ _ _ => pts_nil) (fun _ _ _ _ _ => (pe_tup (pa_cons (pv 4) (pa_cons (pe_ix ix_any (pv 1) (pe_un un_neg pe_int) (fun _ _ => rfl)) pa_nil)))))
    (pss_cons (ps_set (i := 3) sc.nd rfl (Or.inl rfl) (pe_op opA_add (pv 3) (pe_lc (own := [("at", 4)]) (tt := tYes) rfl sc.nd (pi_range2 (by rfl) B.b_range (pa_cons (pe_ix ix_any (pe_ix ix_any (pv 0) pe_int (fun _ _ => rfl)) pe_int (fun _ _ => rfl)) (pa_cons (pv 2) pa_nil))) (blkOk_by (N := Ndivided) (sc := defScope sdivided) (by decide +kernel)) (fun _ _ _ _ _ => (pg_name (i := 4) sc.nd rfl (Or.inl rfl))) (fun _ _ _ _ _ => pts_nil) (fun _ _ _ _ _ => (pe_tup (pa_cons (pv 4) (pa_cons (pe_ix ix_any (pv 1) pe_int (fun _ _ => rfl)) pa_nil)))))))
    (pss_cons (ps_set (i := 5) sc.nd rfl (Or.inr rfl) (pe_callTy (call_dictT rfl) (by rfl) B.b_dict (by decide +kernel) (pa_cons (pv 0) pa_nil)))
    (pss_cons (ps_set (i := 6) sc.nd rfl (Or.inr rfl) pe_dnewK)
    (pss_cons (ps_set (i := 7) sc.nd rfl (Or.inl rfl) pe_int)
    (pss_cons (ps_for hp rfl (pi_seq (pv 3)) (pg_seqA rfl (pgs_cons (pg_name (i := 4) sc.nd rfl (Or.inl rfl)) (pgs_cons (pg_seqA rfl (pgs_cons (pg_name (i := 8) sc.nd rfl (Or.inl rfl)) (pgs_cons (pg_name (i := 9) sc.nd rfl (Or.inl rfl)) pgs_nil))) pgs_nil))) (pss_cons (ps_set (i := 10) sc.nd rfl (Or.inl rfl) (pe_dget2 (hu_of hr) (pv 5) (pv 4) pe_int ⟨rfl, rfl, rfl, rfl⟩))
    (pss_cons (ps_if (pt_cmpR (op_eqD hr.units) (pv 10) pe_int (nomark _)) (pss_one ps_continue) pss_nil)
    (pss_cons (ps_set (i := 11) sc.nd rfl (Or.inl rfl) (pe_callBfun cr_gcd (by rfl) B.g_gcd (pa_cons (pv 10) (pa_cons (pv 9) pa_nil))))
    (pss_cons (ps_if (pt_cmpR op_lt (pv 9) pe_int (nomark _)) (pss_one (ps_set (i := 11) sc.nd rfl (Or.inl rfl) (pe_un un_neg (pv 11)))) pss_nil)
    (pss_cons (ps_set (i := 12) sc.nd rfl (Or.inr rfl) (pe_op opA_div (pv 9) (pv 11)))
    (pss_cons (ps_if (pt_cmpR (op_neD hr.units) (pv 12) pe_int (nomark _)) (pss_cons (ps_set (i := 5) sc.nd rfl (Or.inr rfl) (pe_lockA (pe_dc (own := [("shift", 13)]) (tt := tYes) rfl sc.nd (pi_seq (pv 5)) (blkOk_by (N := Ndivided) (sc := defScope sdivided) (by decide +kernel)) (fun _ _ _ _ _ => (pg_name (i := 13) sc.nd rfl (Or.inl rfl))) (fun _ _ _ _ _ => pts_nil) (fun _ _ _ _ _ => (pv 13)) (fun _ _ _ _ _ => (pe_op opA_mul (pv 12) (pe_dget (hu_of hr) (pv 5) (pv 13) (fun _ _ => rfl)))))))
    (pss_cons (ps_set (i := 6) sc.nd rfl (Or.inr rfl) (pe_lockA (pe_dc (own := [("shift", 13)]) (tt := tYes) rfl sc.nd (pi_seq (pv 6)) (blkOk_by (N := Ndivided) (sc := defScope sdivided) (by decide +kernel)) (fun _ _ _ _ _ => (pg_name (i := 13) sc.nd rfl (Or.inl rfl))) (fun _ _ _ _ _ => pts_nil) (fun _ _ _ _ _ => (pv 13)) (fun _ _ _ _ _ => (pe_op opA_mul (pv 12) (pe_dget (hu_of hr) (pv 6) (pv 13) (fun _ _ => rfl)))))))
    (pss_one (ps_set (i := 7) sc.nd rfl (Or.inl rfl) (pe_op opA_mul (pv 7) (pv 12)))))) pss_nil)
    (pss_cons (ps_dput (hu_of hr) (pv 6) (pe_op op_sub (pv 4) (pv 8)) (pe_op opA_div (pv 10) (pv 11)) rfl)
    (pss_one (ps_for hp rfl (pi_seq (pv 1)) (pg_seqA rfl (pgs_cons (pg_name (i := 13) sc.nd rfl (Or.inl rfl)) (pgs_cons (pg_name (i := 14) sc.nd rfl (Or.inl rfl)) pgs_nil))) (pss_cons (ps_set (i := 15) sc.nd rfl (Or.inl rfl) (pe_op op_sub (pe_op opA_add (pv 13) (pv 4)) (pv 8)))
    (pss_one (ps_dput (hu_of hr) (pv 5) (pv 15) (pe_op op_sub (pe_dget2 (hu_of hr) (pv 5) (pv 15) pe_int ⟨rfl, rfl, rfl, rfl⟩) (pe_op opA_mul (pe_op opA_div (pv 10) (pv 11)) (pv 14))) rfl)))))))))))))
    (pss_one (ps_ret (pe_tup (pa_cons (pv 7) (pa_cons (pe_callD ccleaned (hr.mono (by decide)) (by rfl) tk (pa_cons (pe_itemsR rfl (pv 6) (by rfl) B.b_list (by decide +kernel)) pa_nil)) (pa_cons (pe_callD ccleaned (hr.mono (by decide)) (by rfl) tk (pa_cons (pe_itemsR rfl (pv 5) (by rfl) B.b_list (by decide +kernel)) pa_nil)) pa_nil)))))))))))))
def tpoly_divided (K : PySem.W.Frag) (W : WX) : TS :=
  (tSeq (tAsg (tCallS (SpF K Pcleaned.length frcleaned) (WE W) (tCons (tVar 1) tNil)) (gName 2))
    (tSeq (tIfS (tNot (tTru K (tVar 2))) (tRaise (He.ga K "ZeroPolynomial") W) tNext)
    (tRet (tCallS (SpF K Pdivided.length frdivided) (WE W) (tCons (tCallS (SpF K Pcleaned.length frcleaned) (WE W) (tCons (tVar 0) tNil)) (tCons (tVar 2) (tCons (tC (.int 0)) tNil)))))))
theorem calpoly_divided {P : Program} {w : World} {K : PySem.W.Frag} {mg : Str → Option Value} {base : Heap} (A : FunAt K mg "poly_divided" spoly_divided Ppoly_divided) (B : Bt K mg) (ccleaned : Cal P w K mg base 1 "cleaned" Pcleaned frcleaned) (cdivided : Cal P w K mg base 2 "divided" Pdivided frdivided)
    (pr : ∀ W ds r, (frpoly_divided K) ds r → FnEnd K W (tpoly_divided K W) (entry Npoly_divided ds) r) : Cal P w K mg base 3 "poly_divided" Ppoly_divided (frpoly_divided K) := by
  have sc := scpoly_divided
  refine cal_of A sc _ fun f cdv A outer s H E hr => ⟨tpoly_divided K (wD E), ?_, fun ds r h _ => pr _ ds r h⟩
  have tk : L2N.Takes (cxD P w K mg base Npoly_divided "poly_divided" spoly_divided f cdv A outer s H E) (wD E) := L2N.takes_of rfl rfl rfl rfl
  have hp : PassesOwn (model P w) (cxD P w K mg base Npoly_divided "poly_divided" spoly_divided f cdv A outer s H E).A (cxD P w K mg base Npoly_divided "poly_divided" spoly_divided f cdv A outer s H E).env (cxD P w K mg base Npoly_divided "poly_divided" spoly_divided f cdv A outer s H E).xe := passes_of rfl
  exact (pss_cons (ps_set (i := 2) sc.nd rfl (Or.inl rfl) (pe_callD ccleaned (hr.mono (by decide)) (by rfl) tk (pa_cons (pv 1) pa_nil)))
    (pss_cons (ps_if (pt_not (pt_truth2 (pv 2))) (pss_one (ps_raiseD rfl tk B.e_ZeroPolynomial B.g_ZeroPolynomial (by rfl))) pss_nil)
    (pss_one (ps_ret (pe_callD cdivided (hr.mono (by decide)) (by rfl) tk (pa_cons (pe_callD ccleaned (hr.mono (by decide)) (by rfl) tk (pa_cons (pv 0) pa_nil)) (pa_cons (pv 2) (pa_cons pe_int pa_nil))))))))
def tdivides (K : PySem.W.Frag) (W : WX) : TS :=
  (tSeq (tAsg (tCallS (SpF K Pcleaned.length frcleaned) (WE W) (tCons (tVar 0) tNil)) (gName 2))
    (tSeq (tAsg (tCallS (SpF K Pcleaned.length frcleaned) (WE W) (tCons (tVar 1) tNil)) (gName 3))
    (tSeq (tIfS (tNot (tTru K (tVar 2))) (tRet (tNotT K (tVar 3))) tNext)
    (tRet (tNotT K (tOp (rIxA K) (tCallS (SpF K Pdivided.length frdivided) (WE W) (tCons (tVar 3) (tCons (tVar 2) (tCons (tC (.int 0)) tNil)))) (tC (.int 2))))))))
theorem caldivides {P : Program} {w : World} {K : PySem.W.Frag} {mg : Str → Option Value} {base : Heap} (A : FunAt K mg "divides" sdivides Pdivides) (B : Bt K mg) (ccleaned : Cal P w K mg base 1 "cleaned" Pcleaned frcleaned) (cdivided : Cal P w K mg base 2 "divided" Pdivided frdivided)
    (pr : ∀ W ds r, frdivides ds r → FnEnd K W (tdivides K W) (entry Ndivides ds) r) : Cal P w K mg base 3 "divides" Pdivides frdivides := by
  have sc := scdivides
  refine cal_of A sc _ fun f cdv A outer s H E hr => ⟨tdivides K (wD E), ?_, fun ds r h _ => pr _ ds r h⟩
  have tk : L2N.Takes (cxD P w K mg base Ndivides "divides" sdivides f cdv A outer s H E) (wD E) := L2N.takes_of rfl rfl rfl rfl
  have hp : PassesOwn (model P w) (cxD P w K mg base Ndivides "divides" sdivides f cdv A outer s H E).A (cxD P w K mg base Ndivides "divides" sdivides f cdv A outer s H E).env (cxD P w K mg base Ndivides "divides" sdivides f cdv A outer s H E).xe := passes_of rfl
  exact (pss_cons (ps_set (i := 2) sc.nd rfl (Or.inl rfl) (pe_callD ccleaned (hr.mono (by decide)) (by rfl) tk (pa_cons (pv 0) pa_nil)))
    (pss_cons (ps_set (i := 3) sc.nd rfl (Or.inl rfl) (pe_callD ccleaned (hr.mono (by decide)) (by rfl) tk (pa_cons (pv 1) pa_nil)))
    (pss_cons (ps_if (pt_not (pt_truth2 (pv 2))) (pss_one (ps_ret (pe_notT (pv 3)))) pss_nil)
    (pss_one (ps_ret (pe_notT (pe_ix ix_any (pe_callD cdivided (hr.mono (by decide)) (by rfl) tk (pa_cons (pv 3) (pa_cons (pv 2) (pa_cons pe_int pa_nil)))) pe_int (fun _ _ => rfl))))))))
def t_law_whole (K : PySem.W.Frag) (W : WX) : TS :=
  (tRet (tAndV (tCB (rIsi K) (tCons (tVar 0) (tCons (tC (.ty "int")) tNil))) (tNotV (tCB (rIsi K) (tCons (tVar 0) (tCons (tC (.ty "bool")) tNil))))))
theorem cal_law_whole {P : Program} {w : World} {K : PySem.W.Frag} {mg : Str → Option Value} {base : Heap} (A : FunAt K mg "_law_whole" s_law_whole P_law_whole) (B : Bt K mg)
    (pr : ∀ W ds r, fr_law_whole ds r → FnEnd K W (t_law_whole K W) (entry N_law_whole ds) r) : Cal P w K mg base 1 "_law_whole" P_law_whole fr_law_whole := by
  have sc := sc_law_whole
  refine cal_of A sc _ fun f cdv A outer s H E hr => ⟨t_law_whole K (wD E), ?_, fun ds r h _ => pr _ ds r h⟩
  have tk : L2N.Takes (cxD P w K mg base N_law_whole "_law_whole" s_law_whole f cdv A outer s H E) (wD E) := L2N.takes_of rfl rfl rfl rfl
  have hp : PassesOwn (model P w) (cxD P w K mg base N_law_whole "_law_whole" s_law_whole f cdv A outer s H E).A (cxD P w K mg base N_law_whole "_law_whole" s_law_whole f cdv A outer s H E).env (cxD P w K mg base N_law_whole "_law_whole" s_law_whole f cdv A outer s H E).xe := passes_of rfl
  exact (pss_one (ps_ret (pe_and (pe_callB call_isi (by rfl) B.b_isinstance (by decide +kernel) (pa_cons (pv 0) (pa_cons (pe_bltn (v := .ty "int") (by rfl) B.b_int (by decide +kernel) rfl) pa_nil))) (pe_one (pe_not (pe_callB call_isi (by rfl) B.b_isinstance (by decide +kernel) (pa_cons (pv 0) (pa_cons (pe_bltn (v := .ty "bool") (by rfl) B.b_bool (by decide +kernel) rfl) pa_nil))))))))
def t_law_cell (K : PySem.W.Frag) (W : WX) : TS :=
  (tSeq (tIfS (tTest (tOp (rI0 fun i j => .bl (decide (i < j))) (tVar 1) (tCB (rLenA K) (tCons (tVar 0) tNil)))) (tRet (tOp (rIxA K) (tVar 0) (tVar 1))) tNext)
    (tSeq (tAsg (tC (.int 17)) (gName 2))
    (tSeq (tFor (iSeq K (tVar 0)) (gName 3) (tAsg (tOp (rI (fun _ j => 0 < j) fun i j => .int (i % j)) (tCB rIntC (tCons (tOp (rAddA K) (tOp rMulA (tVar 2) (tC (.int 31))) (tOp (rI (fun _ j => 0 < j) fun i j => .int (i % j)) (tCB rIntC (tCons (tVar 3) tNil)) (tC (.int 1000003)))) tNil)) (tC (.int 1000003))) (gName 2)))
    (tRet (tOp (rI (fun _ j => 0 < j) fun i j => .int (i % j)) (tCB rIntC (tCons (tOp rMulA (tOp rMulA (tOp (rAddA K) (tVar 2) (tC (.int 7))) (tOp (rAddA K) (tVar 1) (tC (.int 3)))) (tC (.int 69621))) tNil)) (tC (.int 2147483647)))))))
theorem cal_law_cell {P : Program} {w : World} {K : PySem.W.Frag} {mg : Str → Option Value} {base : Heap} (A : FunAt K mg "_law_cell" s_law_cell P_law_cell) (B : Bt K mg)
    (pr : ∀ W ds r, fr_law_cell ds r → FnEnd K W (t_law_cell K W) (entry N_law_cell ds) r) : Cal P w K mg base 1 "_law_cell" P_law_cell fr_law_cell := by
  have sc := sc_law_cell
  refine cal_of A sc _ fun f cdv A outer s H E hr => ⟨t_law_cell K (wD E), ?_, fun ds r h _ => pr _ ds r h⟩
  have tk : L2N.Takes (cxD P w K mg base N_law_cell "_law_cell" s_law_cell f cdv A outer s H E) (wD E) := L2N.takes_of rfl rfl rfl rfl
  have hp : PassesOwn (model P w) (cxD P w K mg base N_law_cell "_law_cell" s_law_cell f cdv A outer s H E).A (cxD P w K mg base N_law_cell "_law_cell" s_law_cell f cdv A outer s H E).env (cxD P w K mg base N_law_cell "_law_cell" s_law_cell f cdv A outer s H E).xe := passes_of rfl
  exact (pss_cons (ps_if (pt_cmpR op_lt (pv 1) (pe_callB cr_lenA (by rfl) B.b_len (by decide +kernel) (pa_cons (pv 0) pa_nil)) (nomark _)) (pss_one (ps_ret (pe_ix ix_any (pv 0) (pv 1) (fun _ _ => rfl)))) pss_nil)
    (pss_cons (ps_set (i := 2) sc.nd rfl (Or.inl rfl) pe_int)
    (pss_cons (ps_for hp rfl (pi_seq (pv 0)) (pg_name (i := 3) sc.nd rfl (Or.inl rfl)) (pss_one (ps_set (i := 2) sc.nd rfl (Or.inl rfl) (pe_op op_mod (pe_callTy cr_int (by rfl) B.b_int (by decide +kernel) (pa_cons (pe_op opA_add (pe_op opA_mul (pv 2) pe_int) (pe_op op_mod (pe_callTy cr_int (by rfl) B.b_int (by decide +kernel) (pa_cons (pv 3) pa_nil)) pe_int)) pa_nil)) pe_int))))
    (pss_one (ps_ret (pe_op op_mod (pe_callTy cr_int (by rfl) B.b_int (by decide +kernel) (pa_cons (pe_op opA_mul (pe_op opA_mul (pe_op opA_add (pv 2) pe_int) (pe_op opA_add (pv 1) pe_int)) pe_int) pa_nil)) pe_int))))))
def t_law_digits (K : PySem.W.Frag) (W : WX) : TS :=
  (tSeq (tAsg (tLst tNil) (gName 2))
    (tSeq (tAsg (tCB rIntC (tCons (tVar 0) tNil)) (gName 3))
    (tSeq (tIfS (tTest (tOp (rI0 fun i j => .bl (decide (j ≤ i))) (tVar 3) (tOp (rI CPow fun i j => .int (i ^ j.toNat)) (tC (.int 10)) (tC (.int 18))))) (tSeq (tAsg (tOp (rI0 fun i j => .int (i - j)) (tVar 3) (tOp (rI CPow fun i j => .int (i ^ j.toNat)) (tC (.int 10)) (tC (.int 18)))) (gName 3))
    (tSeq (tFor (iSeq K (tVar 1)) (gName 4) (tSeq (tDrop (tBM K "list" rAppend (tVar 2) (tCons (tOp (rI (fun _ j => 0 < j) fun i j => .int (i % j)) (tCB rIntC (tCons (tVar 3) tNil)) (tVar 4)) tNil)))
    (tAsg (tOp rDivA (tCB rIntC (tCons (tVar 3) tNil)) (tVar 4)) (gName 3))))
    (tRet (tVar 2)))) tNext)
    (tSeq (tAsg (tOp (rI (fun _ j => 0 < j) fun i j => .int (i % j)) (tCB rIntC (tCons (tVar 3) tNil)) (tC (.int 2147483629))) (gName 5))
    (tSeq (tFor (iRng1 (tCons (tCB (rLenA K) (tCons (tVar 1) tNil)) tNil)) (gName 6) (tSeq (tAsg (tOp (rI (fun _ j => 0 < j) fun i j => .int (i % j)) (tCB rIntC (tCons (tOp (rAddA K) (tOp (rAddA K) (tOp rMulA (tVar 5) (tC (.int 48271))) (tOp rMulA (tC (.int 974711)) (tVar 6))) (tC (.int 12345))) tNil)) (tC (.int 2147483647))) (gName 5))
    (tSeq (tAsg (tOp (rI (fun _ j => 0 < j) fun i j => .int (i % j)) (tCB rIntC (tCons (tOp rMulA (tVar 5) (tOp (rAddA K) (tOp rDivA (tVar 5) (tC (.int 65537))) (tC (.int 3)))) tNil)) (tC (.int 2147483629))) (gName 7))
    (tDrop (tBM K "list" rAppend (tVar 2) (tCons (tOp (rI (fun _ j => 0 < j) fun i j => .int (i % j)) (tOp rDivA (tVar 7) (tC (.int 19))) (tOp (rIxA K) (tVar 1) (tVar 6))) tNil))))))
    (tRet (tVar 2)))))))
theorem cal_law_digits {P : Program} {w : World} {K : PySem.W.Frag} {mg : Str → Option Value} {base : Heap} (A : FunAt K mg "_law_digits" s_law_digits P_law_digits) (B : Bt K mg)
    (pr : ∀ W ds r, fr_law_digits ds r → FnEnd K W (t_law_digits K W) (entry N_law_digits ds) r) : Cal P w K mg base 1 "_law_digits" P_law_digits fr_law_digits := by
  have sc := sc_law_digits
  refine cal_of A sc _ fun f cdv A outer s H E hr => ⟨t_law_digits K (wD E), ?_, fun ds r h _ => pr _ ds r h⟩
  have tk : L2N.Takes (cxD P w K mg base N_law_digits "_law_digits" s_law_digits f cdv A outer s H E) (wD E) := L2N.takes_of rfl rfl rfl rfl
  have hp : PassesOwn (model P w) (cxD P w K mg base N_law_digits "_law_digits" s_law_digits f cdv A outer s H E).A (cxD P w K mg base N_law_digits "_law_digits" s_law_digits f cdv A outer s H E).env (cxD P w K mg base N_law_digits "_law_digits" s_law_digits f cdv A outer s H E).xe := passes_of rfl
  exact (pss_cons (ps_set (i := 2) sc.nd rfl (Or.inl rfl) (pe_lst pa_nil))
    (pss_cons (ps_set (i := 3) sc.nd rfl (Or.inl rfl) (pe_callTy cr_int (by rfl) B.b_int (by decide +kernel) (pa_cons (pv 0) pa_nil)))
    (pss_cons (ps_if (pt_cmpR op_ge (pv 3) (pe_op op_pow pe_int pe_int) (nomark _)) (pss_cons (ps_set (i := 3) sc.nd rfl (Or.inl rfl) (pe_op op_sub (pv 3) (pe_op op_pow pe_int pe_int)))
    (pss_cons (ps_for hp rfl (pi_seq (pv 1)) (pg_name (i := 4) sc.nd rfl (Or.inl rfl)) (pss_cons (ps_expr (pe_bm PySem.F.plainAttrs_list PySem.F.slot_list_append PySem.F.type_list_append mt_append (pv 2) (pa_cons (pe_op op_mod (pe_callTy cr_int (by rfl) B.b_int (by decide +kernel) (pa_cons (pv 3) pa_nil)) (pv 4)) pa_nil)))
    (pss_one (ps_set (i := 3) sc.nd rfl (Or.inl rfl) (pe_op opA_div (pe_callTy cr_int (by rfl) B.b_int (by decide +kernel) (pa_cons (pv 3) pa_nil)) (pv 4))))))
    (pss_one (ps_ret (pv 2))))) pss_nil)
    (pss_cons (ps_set (i := 5) sc.nd rfl (Or.inl rfl) (pe_op op_mod (pe_callTy cr_int (by rfl) B.b_int (by decide +kernel) (pa_cons (pv 3) pa_nil)) pe_int))
    (pss_cons (ps_for hp rfl (pi_range1 (by rfl) B.b_range (pa_cons (pe_callB cr_lenA (by rfl) B.b_len (by decide +kernel) (pa_cons (pv 1) pa_nil)) pa_nil)) (pg_name (i := 6) sc.nd rfl (Or.inl rfl)) (pss_cons (ps_set (i := 5) sc.nd rfl (Or.inl rfl) (pe_op op_mod (pe_callTy cr_int (by rfl) B.b_int (by decide +kernel) (pa_cons (pe_op opA_add (pe_op opA_add (pe_op opA_mul (pv 5) pe_int) (pe_op opA_mul pe_int (pv 6))) pe_int) pa_nil)) pe_int))
    (pss_cons (ps_set (i := 7) sc.nd rfl (Or.inl rfl) (pe_op op_mod (pe_callTy cr_int (by rfl) B.b_int (by decide +kernel) (pa_cons (pe_op opA_mul (pv 5) (pe_op opA_add (pe_op opA_div (pv 5) pe_int) pe_int)) pa_nil)) pe_int))
    (pss_one (ps_expr (pe_bm PySem.F.plainAttrs_list PySem.F.slot_list_append PySem.F.type_list_append mt_append (pv 2) (pa_cons (pe_op op_mod (pe_op opA_div (pv 7) pe_int) (pe_ix ix_any (pv 1) (pv 6) (fun _ _ => rfl))) pa_nil)))))))
    (pss_one (ps_ret (pv 2))))))))
def t_law_gcd (K : PySem.W.Frag) (W : WX) : TS :=
  (tSeq (tAsg (tCB rAbsC (tCons (tVar 0) tNil)) (gName 2))
    (tSeq (tAsg (tCB rAbsC (tCons (tVar 1) tNil)) (gName 3))
    (tSeq (tFor (iRng1 (tCons (tOp (rAddA K) (tOp rMulA (tC (.int 2)) (tBits (tVar 3))) (tC (.int 2))) tNil)) (gName 4) (tSeq (tIfS (tTest (tOp (rEqD K) (tVar 3) (tC (.int 0)))) (tRet (tVar 2)) tNext)
    (tSeq (tAsg (tOp (rI (fun _ j => 0 < j) fun i j => .int (i % j)) (tCB rIntC (tCons (tVar 2) tNil)) (tVar 3)) (gName 5))
    (tSeq (tAsg (tVar 3) (gName 2))
    (tAsg (tVar 5) (gName 3))))))
    (tRet (tVar 2)))))
theorem cal_law_gcd {P : Program} {w : World} {K : PySem.W.Frag} {mg : Str → Option Value} {base : Heap} (A : FunAt K mg "_law_gcd" s_law_gcd P_law_gcd) (B : Bt K mg)
    (pr : ∀ W ds r, fr_law_gcd ds r → FnEnd K W (t_law_gcd K W) (entry N_law_gcd ds) r) : Cal P w K mg base 1 "_law_gcd" P_law_gcd fr_law_gcd := by
  have sc := sc_law_gcd
  refine cal_of A sc _ fun f cdv A outer s H E hr => ⟨t_law_gcd K (wD E), ?_, fun ds r h _ => pr _ ds r h⟩
  have tk : L2N.Takes (cxD P w K mg base N_law_gcd "_law_gcd" s_law_gcd f cdv A outer s H E) (wD E) := L2N.takes_of rfl rfl rfl rfl
  have hp : PassesOwn (model P w) (cxD P w K mg base N_law_gcd "_law_gcd" s_law_gcd f cdv A outer s H E).A (cxD P w K mg base N_law_gcd "_law_gcd" s_law_gcd f cdv A outer s H E).env (cxD P w K mg base N_law_gcd "_law_gcd" s_law_gcd f cdv A outer s H E).xe := passes_of rfl
  exact (pss_cons (ps_set (i := 2) sc.nd rfl (Or.inl rfl) (pe_callB cr_abs (by rfl) B.b_abs (by decide +kernel) (pa_cons (pv 0) pa_nil)))
    (pss_cons (ps_set (i := 3) sc.nd rfl (Or.inl rfl) (pe_callB cr_abs (by rfl) B.b_abs (by decide +kernel) (pa_cons (pv 1) pa_nil)))
    (pss_cons (ps_for hp rfl (pi_range1 (by rfl) B.b_range (pa_cons (pe_op opA_add (pe_op opA_mul pe_int (pe_bits (pv 3))) pe_int) pa_nil)) (pg_name (i := 4) sc.nd rfl (Or.inl rfl)) (pss_cons (ps_if (pt_cmpR (op_eqD hr.units) (pv 3) pe_int (nomark _)) (pss_one (ps_ret (pv 2))) pss_nil)
    (pss_cons (ps_set (i := 5) sc.nd rfl (Or.inl rfl) (pe_op op_mod (pe_callTy cr_int (by rfl) B.b_int (by decide +kernel) (pa_cons (pv 2) pa_nil)) (pv 3)))
    (pss_cons (ps_set (i := 2) sc.nd rfl (Or.inl rfl) (pv 3))
    (pss_one (ps_set (i := 3) sc.nd rfl (Or.inl rfl) (pv 5)))))))
    (pss_one (ps_ret (pv 2))))))
def t_law_poly (K : PySem.W.Frag) (W : WX) : TS :=
  (tSeq (tAsg tDNewK (gName 1))
    (tSeq (tFor (iSeq K (tVar 0)) (gName 2) (sDPut (tVar 1) (tOp (rIxA K) (tVar 2) (tC (.int 0))) (tOp (rAddA K) (tDGet2 (tVar 1) (tOp (rIxA K) (tVar 2) (tC (.int 0))) (tC (.int 0))) (tOp (rIxA K) (tVar 2) (tC (.int 1))))))
    (tSeq (tAsg tDNewK (gName 3))
    (tSeq (tFor (iSeq K (tCB (rSortA K) (tCons (tCB (rLstA K) (tCons (tVar 1) tNil)) tNil))) (gName 4) (tIfS (tTest (tOp (rNeD K) (tDGet (tVar 1) (tVar 4)) (tC (.int 0)))) (sDPut (tVar 3) (tVar 4) (tDGet (tVar 1) (tVar 4))) tNext))
    (tRet (tVar 3))))))
theorem cal_law_poly {P : Program} {w : World} {K : PySem.W.Frag} {mg : Str → Option Value} {base : Heap} (A : FunAt K mg "_law_poly" s_law_poly P_law_poly) (B : Bt K mg)
    (pr : ∀ W ds r, fr_law_poly ds r → FnEnd K W (t_law_poly K W) (entry N_law_poly ds) r) : Cal P w K mg base 1 "_law_poly" P_law_poly fr_law_poly := by
  have sc := sc_law_poly
  refine cal_of A sc _ fun f cdv A outer s H E hr => ⟨t_law_poly K (wD E), ?_, fun ds r h _ => pr _ ds r h⟩
  have tk : L2N.Takes (cxD P w K mg base N_law_poly "_law_poly" s_law_poly f cdv A outer s H E) (wD E) := L2N.takes_of rfl rfl rfl rfl
  have hp : PassesOwn (model P w) (cxD P w K mg base N_law_poly "_law_poly" s_law_poly f cdv A outer s H E).A (cxD P w K mg base N_law_poly "_law_poly" s_law_poly f cdv A outer s H E).env (cxD P w K mg base N_law_poly "_law_poly" s_law_poly f cdv A outer s H E).xe := passes_of rfl
  exact (pss_cons (ps_set (i := 1) sc.nd rfl (Or.inl rfl) pe_dnewK)
    (pss_cons (ps_for hp rfl (pi_seq (pv 0)) (pg_name (i := 2) sc.nd rfl (Or.inl rfl)) (pss_one (ps_dput (hu_of hr) (pv 1) (pe_ix ix_any (pv 2) pe_int (fun _ _ => rfl)) (pe_op opA_add (pe_dget2 (hu_of hr) (pv 1) (pe_ix ix_any (pv 2) pe_int (fun _ _ => rfl)) pe_int ⟨rfl, rfl, rfl, rfl⟩) (pe_ix ix_any (pv 2) pe_int (fun _ _ => rfl))) rfl)))
    (pss_cons (ps_set (i := 3) sc.nd rfl (Or.inl rfl) pe_dnewK)
    (pss_cons (ps_for hp rfl (pi_seq (pe_callB (cr_sortL hr.units) (by rfl) B.b_sorted (by decide +kernel) (pa_cons (pe_callTy (cr_lstA rfl) (by rfl) B.b_list (by decide +kernel) (pa_cons (pv 1) pa_nil)) pa_nil))) (pg_name (i := 4) sc.nd rfl (Or.inl rfl)) (pss_one (ps_if (pt_cmpR (op_neD hr.units) (pe_dget (hu_of hr) (pv 1) (pv 4) (fun _ _ => rfl)) pe_int (nomark _)) (pss_one (ps_dput (hu_of hr) (pv 3) (pv 4) (pe_dget (hu_of hr) (pv 1) (pv 4) (fun _ _ => rfl)) rfl)) pss_nil)))
    (pss_one (ps_ret (pv 3)))))))
def t_law_add (K : PySem.W.Frag) (W : WX) : TS :=
  (tRet (tCallS (SpF K P_law_poly.length fr_law_poly) (WE W) (tCons (tOp (rAddA K) (tItemsR (tVar 0)) (tLockEA (tLc (iSeq K (tVar 1)) (gName 3) tYes (tTup (tCons (tVar 3) (tCons (tOp rMulA (tVar 2) (tDGet (tVar 1) (tVar 3))) tNil))) [3]))) tNil)))
theorem cal_law_add {P : Program} {w : World} {K : PySem.W.Frag} {mg : Str → Option Value} {base : Heap} (A : FunAt K mg "_law_add" s_law_add P_law_add) (B : Bt K mg) (c_law_poly : Cal P w K mg base 1 "_law_poly" P_law_poly fr_law_poly)
    (pr : ∀ W ds r, fr_law_add ds r → FnEnd K W (t_law_add K W) (entry N_law_add ds) r) : Cal P w K mg base 2 "_law_add" P_law_add fr_law_add := by
  have sc := sc_law_add
  refine cal_of A sc _ fun f cdv A outer s H E hr => ⟨t_law_add K (wD E), ?_, fun ds r h _ => pr _ ds r h⟩
  have tk : L2N.Takes (cxD P w K mg base N_law_add "_law_add" s_law_add f cdv A outer s H E) (wD E) := L2N.takes_of rfl rfl rfl rfl
  have hp : PassesOwn (model P w) (cxD P w K mg base N_law_add "_law_add" s_law_add f cdv A outer s H E).A (cxD P w K mg base N_law_add "_law_add" s_law_add f cdv A outer s H E).env (cxD P w K mg base N_law_add "_law_add" s_law_add f cdv A outer s H E).xe := passes_of rfl
  exact (pss_one (ps_ret (pe_callD c_law_poly (hr.mono (by decide)) (by rfl) tk (pa_cons (pe_op opA_add (pe_itemsR rfl (pv 0) (by rfl) B.b_list (by decide +kernel)) (pe_lockA (pe_lc (own := [("shift", 3)]) (tt := tYes) rfl sc.nd (pi_seq (pv 1)) (blkOk_by (N := N_law_add) (sc := defScope s_law_add) (by decide +kernel)) (fun _ _ _ _ _ => (pg_name (i := 3) sc.nd rfl (Or.inl rfl))) (fun _ _ _ _ _ => pts_nil) (fun _ _ _ _ _ => (pe_tup (pa_cons (pv 3) (pa_cons (pe_op opA_mul (pv 2) (pe_dget (hu_of hr) (pv 1) (pv 3) (fun _ _ => rfl))) pa_nil))))))) pa_nil))))
def t_law_mul (K : PySem.W.Frag) (W : WX) : TS :=
  (tSeq (tAsg tDNewK (gName 2))
    (tSeq (tLockA (tFor (iSeq K (tVar 0)) (gName 3) (tLockA (tFor (iSeq K (tVar 1)) (gName 4) (sDPut (tVar 2) (tOp (rAddA K) (tVar 3) (tVar 4)) (tOp (rAddA K) (tDGet2 (tVar 2) (tOp (rAddA K) (tVar 3) (tVar 4)) (tC (.int 0))) (tOp rMulA (tDGet (tVar 0) (tVar 3)) (tDGet (tVar 1) (tVar 4)))))))))
    (tRet (tCallS (SpF K P_law_poly.length fr_law_poly) (WE W) (tCons (tItemsR (tVar 2)) tNil)))))
theorem cal_law_mul {P : Program} {w : World} {K : PySem.W.Frag} {mg : Str → Option Value} {base : Heap} (A : FunAt K mg "_law_mul" s_law_mul P_law_mul) (B : Bt K mg) (c_law_poly : Cal P w K mg base 1 "_law_poly" P_law_poly fr_law_poly)
    (pr : ∀ W ds r, fr_law_mul ds r → FnEnd K W (t_law_mul K W) (entry N_law_mul ds) r) : Cal P w K mg base 2 "_law_mul" P_law_mul fr_law_mul := by
  have sc := sc_law_mul
  refine cal_of A sc _ fun f cdv A outer s H E hr => ⟨t_law_mul K (wD E), ?_, fun ds r h _ => pr _ ds r h⟩
  have tk : L2N.Takes (cxD P w K mg base N_law_mul "_law_mul" s_law_mul f cdv A outer s H E) (wD E) := L2N.takes_of rfl rfl rfl rfl
  have hp : PassesOwn (model P w) (cxD P w K mg base N_law_mul "_law_mul" s_law_mul f cdv A outer s H E).A (cxD P w K mg base N_law_mul "_law_mul" s_law_mul f cdv A outer s H E).env (cxD P w K mg base N_law_mul "_law_mul" s_law_mul f cdv A outer s H E).xe := passes_of rfl
  exact (pss_cons (ps_set (i := 2) sc.nd rfl (Or.inl rfl) pe_dnewK)
    (pss_cons (ps_lockA (ps_for hp rfl (pi_seq (pv 0)) (pg_name (i := 3) sc.nd rfl (Or.inl rfl)) (pss_one (ps_lockA (ps_for hp rfl (pi_seq (pv 1)) (pg_name (i := 4) sc.nd rfl (Or.inl rfl)) (pss_one (ps_dput (hu_of hr) (pv 2) (pe_op opA_add (pv 3) (pv 4)) (pe_op opA_add (pe_dget2 (hu_of hr) (pv 2) (pe_op opA_add (pv 3) (pv 4)) pe_int ⟨rfl, rfl, rfl, rfl⟩) (pe_op opA_mul (pe_dget (hu_of hr) (pv 0) (pv 3) (fun _ _ => rfl)) (pe_dget (hu_of hr) (pv 1) (pv 4) (fun _ _ => rfl)))) rfl)))))))
    (pss_one (ps_ret (pe_callD c_law_poly (hr.mono (by decide)) (by rfl) tk (pa_cons (pe_itemsR rfl (pv 2) (by rfl) B.b_list (by decide +kernel)) pa_nil))))))
def t_law_is_poly (K : PySem.W.Frag) (W : WX) : TS :=
  (tSeq (tIfS (tNot (tB (tCB (rIsi K) (tCons (tVar 0) (tCons (tC (.ty "tuple")) tNil))))) (tRet (tC (.bl false))) tNext)
    (tSeq (tFor (iSeq K (tVar 0)) (gName 1) (tSeq (tIfS (tOr (tNot (tB (tCB (rIsi K) (tCons (tVar 1) (tCons (tC (.ty "tuple")) tNil))))) (tTest (tOp (rNeD K) (tCB (rLenA K) (tCons (tVar 1) tNil)) (tC (.int 2))))) (tRet (tC (.bl false))) tNext)
    (tIfS (tOr (tNot (tB (tCallS (SpF K P_law_whole.length fr_law_whole) (WE W) (tCons (tOp (rIxA K) (tVar 1) (tC (.int 0))) tNil)))) (tOr (tNot (tB (tCallS (SpF K P_law_whole.length fr_law_whole) (WE W) (tCons (tOp (rIxA K) (tVar 1) (tC (.int 1))) tNil)))) (tTest (tOp (rEqD K) (tOp (rIxA K) (tVar 1) (tC (.int 1))) (tC (.int 0)))))) (tRet (tC (.bl false))) tNext)))
    (tSeq (tFor (iRng2 (tCons (tC (.int 1)) (tCons (tCB (rLenA K) (tCons (tVar 0) tNil)) tNil))) (gName 2) (tIfS (tTest (tOp (rI0 fun i j => .bl (decide (j ≤ i))) (tOp (rIxA K) (tOp (rIxA K) (tVar 0) (tOp (rI0 fun i j => .int (i - j)) (tVar 2) (tC (.int 1)))) (tC (.int 0))) (tOp (rIxA K) (tOp (rIxA K) (tVar 0) (tVar 2)) (tC (.int 0))))) (tRet (tC (.bl false))) tNext))
    (tRet (tC (.bl true))))))
theorem cal_law_is_poly {P : Program} {w : World} {K : PySem.W.Frag} {mg : Str → Option Value} {base : Heap} (A : FunAt K mg "_law_is_poly" s_law_is_poly P_law_is_poly) (B : Bt K mg) (c_law_whole : Cal P w K mg base 1 "_law_whole" P_law_whole fr_law_whole)
    (pr : ∀ W ds r, fr_law_is_poly ds r → FnEnd K W (t_law_is_poly K W) (entry N_law_is_poly ds) r) : Cal P w K mg base 2 "_law_is_poly" P_law_is_poly fr_law_is_poly := by
  have sc := sc_law_is_poly
  refine cal_of A sc _ fun f cdv A outer s H E hr => ⟨t_law_is_poly K (wD E), ?_, fun ds r h _ => pr _ ds r h⟩
  have tk : L2N.Takes (cxD P w K mg base N_law_is_poly "_law_is_poly" s_law_is_poly f cdv A outer s H E) (wD E) := L2N.takes_of rfl rfl rfl rfl
  have hp : PassesOwn (model P w) (cxD P w K mg base N_law_is_poly "_law_is_poly" s_law_is_poly f cdv A outer s H E).A (cxD P w K mg base N_law_is_poly "_law_is_poly" s_law_is_poly f cdv A outer s H E).env (cxD P w K mg base N_law_is_poly "_law_is_poly" s_law_is_poly f cdv A outer s H E).xe := passes_of rfl
  exact (pss_cons (ps_if (pt_not (pt_val (pe_callB call_isi (by rfl) B.b_isinstance (by decide +kernel) (pa_cons (pv 0) (pa_cons (pe_bltn (v := .ty "tuple") (by rfl) B.b_tuple (by decide +kernel) rfl) pa_nil))))) (pss_one (ps_ret pe_bl)) pss_nil)
    (pss_cons (ps_for hp rfl (pi_seq (pv 0)) (pg_name (i := 1) sc.nd rfl (Or.inl rfl)) (pss_cons (ps_if ((pw_or (pt_not (pt_val (pe_callB call_isi (by rfl) B.b_isinstance (by decide +kernel) (pa_cons (pv 1) (pa_cons (pe_bltn (v := .ty "tuple") (by rfl) B.b_tuple (by decide +kernel) rfl) pa_nil))))) (pw_or1 (pt_cmpR (op_neD hr.units) (pe_callB cr_lenA (by rfl) B.b_len (by decide +kernel) (pa_cons (pv 1) pa_nil)) pe_int (nomark _))))).pt (pss_one (ps_ret pe_bl)) pss_nil)
    (pss_one (ps_if ((pw_or (pt_not (pt_val (pe_callD c_law_whole (hr.mono (by decide)) (by rfl) tk (pa_cons (pe_ix ix_any (pv 1) pe_int (fun _ _ => rfl)) pa_nil)))) (pw_or (pt_not (pt_val (pe_callD c_law_whole (hr.mono (by decide)) (by rfl) tk (pa_cons (pe_ix ix_any (pv 1) pe_int (fun _ _ => rfl)) pa_nil)))) (pw_or1 (pt_cmpR (op_eqD hr.units) (pe_ix ix_any (pv 1) pe_int (fun _ _ => rfl)) pe_int (nomark _)))))).pt (pss_one (ps_ret pe_bl)) pss_nil))))
    (pss_cons (ps_for hp rfl (pi_range2 (by rfl) B.b_range (pa_cons pe_int (pa_cons (pe_callB cr_lenA (by rfl) B.b_len (by decide +kernel) (pa_cons (pv 0) pa_nil)) pa_nil))) (pg_name (i := 2) sc.nd rfl (Or.inl rfl)) (pss_one (ps_if (pt_cmpR op_ge (pe_ix ix_any (pe_ix ix_any (pv 0) (pe_op op_sub (pv 2) pe_int) (fun _ _ => rfl)) pe_int (fun _ _ => rfl)) (pe_ix ix_any (pe_ix ix_any (pv 0) (pv 2) (fun _ _ => rfl)) pe_int (fun _ _ => rfl)) (nomark _)) (pss_one (ps_ret pe_bl)) pss_nil)))
    (pss_one (ps_ret pe_bl)))))
def t_law_coefficient (K : PySem.W.Frag) (W : WX) : TS :=
  (tSeq (tIfS (tTest (tOp (rEqD K) (tVar 0) (tC (.int 0)))) (tRet (tC (.int 0))) tNext)
    (tSeq (tIfS (tTest (tOp (rI0 fun i j => .bl (decide (i < j))) (tVar 0) (tC (.int 5)))) (tRet (tOp (rI0 fun i j => .int (i - j)) (tOp (rI (fun _ j => 0 < j) fun i j => .int (i % j)) (tCB rIntC (tCons (tVar 1) tNil)) (tC (.int 9))) (tC (.int 4)))) tNext)
    (tSeq (tIfS (tTest (tOp (rEqD K) (tVar 0) (tC (.int 5)))) (tRet (tOp (rIxA K) (tLst (tCons (tC (.int 1)) (tCons (tUn (rU fun i => .int (-i)) (tC (.int 1))) tNil))) (tOp (rI (fun _ j => 0 < j) fun i j => .int (i % j)) (tCB rIntC (tCons (tVar 1) tNil)) (tC (.int 2))))) tNext)
    (tSeq (tIfS (tTest (tOp (rEqD K) (tVar 0) (tC (.int 6)))) (tRet (tOp rMulA (tC (.int 6)) (tOp (rI0 fun i j => .int (i - j)) (tOp (rI (fun _ j => 0 < j) fun i j => .int (i % j)) (tCB rIntC (tCons (tVar 1) tNil)) (tC (.int 21))) (tC (.int 10))))) tNext)
    (tSeq (tIfS (tTest (tOp (rEqD K) (tVar 0) (tC (.int 7)))) (tRet (tOp (rI0 fun i j => .int (i - j)) (tOp (rI (fun _ j => 0 < j) fun i j => .int (i % j)) (tCB rIntC (tCons (tVar 1) tNil)) (tC (.int 2001))) (tC (.int 1000)))) tNext)
    (tSeq (tIfS (tTest (tOp (rEqD K) (tVar 0) (tC (.int 8)))) (tRet (tOp (rIxA K) (tLst (tCons (tOp (rI CPow fun i j => .int (i ^ j.toNat)) (tC (.int 10)) (tC (.int 9))) (tCons (tUn (rU fun i => .int (-i)) (tOp (rI CPow fun i j => .int (i ^ j.toNat)) (tC (.int 10)) (tC (.int 9)))) (tCons (tOp (rI0 fun i j => .int (i - j)) (tOp (rI CPow fun i j => .int (i ^ j.toNat)) (tC (.int 10)) (tC (.int 9))) (tC (.int 1))) (tCons (tOp (rI0 fun i j => .int (i - j)) (tC (.int 1)) (tOp (rI CPow fun i j => .int (i ^ j.toNat)) (tC (.int 10)) (tC (.int 9)))) (tCons (tC (.int 999999937)) (tCons (tUn (rU fun i => .int (-i)) (tC (.int 536870912))) tNil))))))) (tOp (rI (fun _ j => 0 < j) fun i j => .int (i % j)) (tCB rIntC (tCons (tVar 1) tNil)) (tC (.int 6))))) tNext)
    (tSeq (tIfS (tTest (tOp (rEqD K) (tVar 0) (tC (.int 9)))) (tRet (tOp (rI0 fun i j => .int (i - j)) (tOp (rI (fun _ j => 0 < j) fun i j => .int (i % j)) (tCB rIntC (tCons (tOp (rAddA K) (tVar 1) (tOp rMulA (tC (.int 100000)) (tVar 2))) tNil)) (tC (.int 2000000001))) (tOp (rI CPow fun i j => .int (i ^ j.toNat)) (tC (.int 10)) (tC (.int 9))))) tNext)
    (tSeq (tIfS (tTest (tOp (rEqD K) (tVar 0) (tC (.int 10)))) (tRet (tOp (rI0 fun i j => .int (i - j)) (tOp (rI (fun _ j => 0 < j) fun i j => .int (i % j)) (tCB rIntC (tCons (tVar 1) tNil)) (tC (.int 25))) (tC (.int 12)))) tNext)
    (tRet (tOp rMulA (tC (.int 30030)) (tOp (rI0 fun i j => .int (i - j)) (tOp (rI (fun _ j => 0 < j) fun i j => .int (i % j)) (tCB rIntC (tCons (tVar 1) tNil)) (tC (.int 65))) (tC (.int 32)))))))))))))
theorem cal_law_coefficient {P : Program} {w : World} {K : PySem.W.Frag} {mg : Str → Option Value} {base : Heap} (A : FunAt K mg "_law_coefficient" s_law_coefficient P_law_coefficient) (B : Bt K mg)
    (pr : ∀ W ds r, fr_law_coefficient ds r → FnEnd K W (t_law_coefficient K W) (entry N_law_coefficient ds) r) : Cal P w K mg base 1 "_law_coefficient" P_law_coefficient fr_law_coefficient := by
  have sc := sc_law_coefficient
  refine cal_of A sc _ fun f cdv A outer s H E hr => ⟨t_law_coefficient K (wD E), ?_, fun ds r h _ => pr _ ds r h⟩
  have tk : L2N.Takes (cxD P w K mg base N_law_coefficient "_law_coefficient" s_law_coefficient f cdv A outer s H E) (wD E) := L2N.takes_of rfl rfl rfl rfl
  have hp : PassesOwn (model P w) (cxD P w K mg base N_law_coefficient "_law_coefficient" s_law_coefficient f cdv A outer s H E).A (cxD P w K mg base N_law_coefficient "_law_coefficient" s_law_coefficient f cdv A outer s H E).env (cxD P w K mg base N_law_coefficient "_law_coefficient" s_law_coefficient f cdv A outer s H E).xe := passes_of rfl
  exact (pss_cons (ps_if (pt_cmpR (op_eqD hr.units) (pv 0) pe_int (nomark _)) (pss_one (ps_ret pe_int)) pss_nil)
    (pss_cons (ps_if (pt_cmpR op_lt (pv 0) pe_int (nomark _)) (pss_one (ps_ret (pe_op op_sub (pe_op op_mod (pe_callTy cr_int (by rfl) B.b_int (by decide +kernel) (pa_cons (pv 1) pa_nil)) pe_int) pe_int))) pss_nil)
    (pss_cons (ps_if (pt_cmpR (op_eqD hr.units) (pv 0) pe_int (nomark _)) (pss_one (ps_ret (pe_ix ix_any (pe_lst (pa_cons pe_int (pa_cons (pe_un un_neg pe_int) pa_nil))) (pe_op op_mod (pe_callTy cr_int (by rfl) B.b_int (by decide +kernel) (pa_cons (pv 1) pa_nil)) pe_int) (fun _ _ => rfl)))) pss_nil)
    (pss_cons (ps_if (pt_cmpR (op_eqD hr.units) (pv 0) pe_int (nomark _)) (pss_one (ps_ret (pe_op opA_mul pe_int (pe_op op_sub (pe_op op_mod (pe_callTy cr_int (by rfl) B.b_int (by decide +kernel) (pa_cons (pv 1) pa_nil)) pe_int) pe_int)))) pss_nil)
    (pss_cons (ps_if (pt_cmpR (op_eqD hr.units) (pv 0) pe_int (nomark _)) (pss_one (ps_ret (pe_op op_sub (pe_op op_mod (pe_callTy cr_int (by rfl) B.b_int (by decide +kernel) (pa_cons (pv 1) pa_nil)) pe_int) pe_int))) pss_nil)
    (pss_cons (ps_if (pt_cmpR (op_eqD hr.units) (pv 0) pe_int (nomark _)) (pss_one (ps_ret (pe_ix ix_any (pe_lst (pa_cons (pe_op op_pow pe_int pe_int) (pa_cons (pe_un un_neg (pe_op op_pow pe_int pe_int)) (pa_cons (pe_op op_sub (pe_op op_pow pe_int pe_int) pe_int) (pa_cons (pe_op op_sub pe_int (pe_op op_pow pe_int pe_int)) (pa_cons pe_int (pa_cons (pe_un un_neg pe_int) pa_nil))))))) (pe_op op_mod (pe_callTy cr_int (by rfl) B.b_int (by decide +kernel) (pa_cons (pv 1) pa_nil)) pe_int) (fun _ _ => rfl)))) pss_nil)
    (pss_cons (ps_if (pt_cmpR (op_eqD hr.units) (pv 0) pe_int (nomark _)) (pss_one (ps_ret (pe_op op_sub (pe_op op_mod (pe_callTy cr_int (by rfl) B.b_int (by decide +kernel) (pa_cons (pe_op opA_add (pv 1) (pe_op opA_mul pe_int (pv 2))) pa_nil)) pe_int) (pe_op op_pow pe_int pe_int)))) pss_nil)
    (pss_cons (ps_if (pt_cmpR (op_eqD hr.units) (pv 0) pe_int (nomark _)) (pss_one (ps_ret (pe_op op_sub (pe_op op_mod (pe_callTy cr_int (by rfl) B.b_int (by decide +kernel) (pa_cons (pv 1) pa_nil)) pe_int) pe_int))) pss_nil)
    (pss_one (ps_ret (pe_op opA_mul pe_int (pe_op op_sub (pe_op op_mod (pe_callTy cr_int (by rfl) B.b_int (by decide +kernel) (pa_cons (pv 1) pa_nil)) pe_int) pe_int))))))))))))
def t_law_drawn (K : PySem.W.Frag) (W : WX) : TS :=
  (tSeq (tAsg (tLst (tCons (tOp (rIxA K) (tVar 0) (tC (.int 1))) (tCons (tC (.int 40)) (tCons (tOp (rI (fun _ j => 0 < j) fun i j => .int (i % j)) (tCB rIntC (tCons (tOp (rIxA K) (tVar 0) (tC (.int 1))) tNil)) (tC (.int 13))) (tCons (tOp (rAddA K) (tC (.int 2)) (tOp (rI (fun _ j => 0 < j) fun i j => .int (i % j)) (tCB rIntC (tCons (tOp (rIxA K) (tVar 0) (tC (.int 1))) tNil)) (tC (.int 6)))) (tCons (tOp (rI (fun _ j => 0 < j) fun i j => .int (i % j)) (tCB rIntC (tCons (tOp (rIxA K) (tVar 0) (tC (.int 1))) tNil)) (tC (.int 3))) tNil)))))) (gName 1))
    (tSeq (tAsg (tOp (rIxA K) (tVar 1) (tOp (rIxA K) (tLst (tCons (tC (.int 0)) (tCons (tC (.int 1)) (tCons (tC (.int 2)) (tCons (tC (.int 2)) (tCons (tC (.int 3)) (tCons (tC (.int 3)) (tCons (tC (.int 3)) (tCons (tC (.int 3)) (tCons (tC (.int 3)) (tCons (tC (.int 3)) (tCons (tC (.int 3)) (tCons (tC (.int 4)) tNil))))))))))))) (tOp (rIxA K) (tVar 0) (tC (.int 0))))) (gName 2))
    (tSeq (tAsg (tOp (rIxA K) (tLst (tCons (tC (.int 3)) (tCons (tC (.int 4)) (tCons (tC (.int 5)) (tCons (tC (.int 6)) (tCons (tC (.int 8)) (tCons (tC (.int 12)) (tCons (tC (.int 1)) (tCons (tC (.int 41)) tNil))))))))) (tOp (rIxA K) (tVar 0) (tC (.int 3)))) (gName 3))
    (tSeq (tAsg (tLst tNil) (gName 4))
    (tSeq (tFor (iRng1 (tCons (tVar 2) tNil)) (gName 5) (tSeq (tAsg (tSl (rSlAny K) (tVar 0) (tPart (tOp (rAddA K) (tC (.int 6)) (tOp rMulA (tC (.int 4)) (tVar 5)))) (tPart (tOp (rAddA K) (tC (.int 10)) (tOp rMulA (tC (.int 4)) (tVar 5))))) (gName 6))
    (tSeq (tAsg (tOp (rI0 fun i j => .int (i - j)) (tOp (rI (fun _ j => 0 < j) fun i j => .int (i % j)) (tCB rIntC (tCons (tOp (rAddA K) (tOp (rIxA K) (tVar 0) (tC (.int 2))) (tOp (rI (fun _ j => 0 < j) fun i j => .int (i % j)) (tCB rIntC (tCons (tOp (rIxA K) (tVar 6) (tC (.int 0))) tNil)) (tVar 3))) tNil)) (tC (.int 41))) (tC (.int 20))) (gName 7))
    (tDrop (tBM K "list" rAppend (tVar 4) (tCons (tLst (tCons (tVar 7) (tCons (tCallS (SpF K P_law_coefficient.length fr_law_coefficient) (WE W) (tCons (tOp (rIxA K) (tVar 6) (tC (.int 1))) (tCons (tOp (rIxA K) (tVar 6) (tC (.int 2))) (tCons (tOp (rIxA K) (tVar 6) (tC (.int 3))) tNil)))) tNil))) tNil))))))
    (tSeq (tAsg (tOp (rIxA K) (tLst (tCons (tC (.int 2)) (tCons (tUn (rU fun i => .int (-i)) (tC (.int 3))) (tCons (tC (.int 1000)) (tCons (tC (.int 12)) tNil))))) (tOp (rIxA K) (tVar 0) (tC (.int 5)))) (gName 8))
    (tSeq (tIfS (tAnd (tTest (tOp (rEqD K) (tOp (rIxA K) (tVar 0) (tC (.int 4))) (tC (.int 0)))) (tTest (tOp (rI0 fun i j => .bl (decide (i ≤ j))) (tOp rMulA (tC (.int 2)) (tVar 2)) (tC (.int 40))))) (tRet (tOp (rAddA K) (tVar 4) (tLc (iSeq K (tVar 4)) (gName 9) tYes (tLst (tCons (tOp (rIxA K) (tVar 9) (tC (.int 0))) (tCons (tUn (rU fun i => .int (-i)) (tOp (rIxA K) (tVar 9) (tC (.int 1)))) tNil))) [9]))) tNext)
    (tSeq (tIfS (tAnd (tTest (tOp (rEqD K) (tOp (rIxA K) (tVar 0) (tC (.int 4))) (tC (.int 1)))) (tTest (tOp (rI0 fun i j => .bl (decide (i ≤ j))) (tOp rMulA (tC (.int 2)) (tVar 2)) (tC (.int 40))))) (tRet (tOp (rAddA K) (tLc (iSeq K (tSl (rSlAny K) (tVar 4) tNoPart (tPart (tOp rDivA (tVar 2) (tC (.int 2)))))) (gName 9) tYes (tLst (tCons (tOp (rIxA K) (tVar 9) (tC (.int 0))) (tCons (tUn (rU fun i => .int (-i)) (tOp (rIxA K) (tVar 9) (tC (.int 1)))) tNil))) [9]) (tVar 4))) tNext)
    (tSeq (tIfS (tAnd (tTest (tOp (rEqD K) (tOp (rIxA K) (tVar 0) (tC (.int 4))) (tC (.int 2)))) (tTest (tOp (rI0 fun i j => .bl (decide (i ≤ j))) (tCB (rMax K) (tCons (tOp (rAddA K) (tLst (tCons (tC (.int 0)) tNil)) (tLc (iSeq K (tVar 4)) (gName 9) tYes (tCB rAbsC (tCons (tOp rMulA (tOp (rIxA K) (tVar 9) (tC (.int 1))) (tVar 8)) tNil)) [9])) tNil)) (tOp (rI CPow fun i j => .int (i ^ j.toNat)) (tC (.int 10)) (tC (.int 9)))))) (tRet (tLc (iSeq K (tVar 4)) (gName 9) tYes (tLst (tCons (tOp (rIxA K) (tVar 9) (tC (.int 0))) (tCons (tOp rMulA (tOp (rIxA K) (tVar 9) (tC (.int 1))) (tVar 8)) tNil))) [9])) tNext)
    (tRet (tVar 4)))))))))))
theorem cal_law_drawn {P : Program} {w : World} {K : PySem.W.Frag} {mg : Str → Option Value} {base : Heap} (A : FunAt K mg "_law_drawn" s_law_drawn P_law_drawn) (B : Bt K mg) (c_law_coefficient : Cal P w K mg base 1 "_law_coefficient" P_law_coefficient fr_law_coefficient)
    (pr : ∀ W ds r, fr_law_drawn ds r → FnEnd K W (t_law_drawn K W) (entry N_law_drawn ds) r) : Cal P w K mg base 2 "_law_drawn" P_law_drawn fr_law_drawn := by
  have sc := sc_law_drawn
  refine cal_of A sc _ fun f cdv A outer s H E hr => ⟨t_law_drawn K (wD E), ?_, fun ds r h _ => pr _ ds r h⟩
  have tk : L2N.Takes (cxD P w K mg base N_law_drawn "_law_drawn" s_law_drawn f cdv A outer s H E) (wD E) := L2N.takes_of rfl rfl rfl rfl
  have hp : PassesOwn (model P w) (cxD P w K mg base N_law_drawn "_law_drawn" s_law_drawn f cdv A outer s H E).A (cxD P w K mg base N_law_drawn "_law_drawn" s_law_drawn f cdv A outer s H E).env (cxD P w K mg base N_law_drawn "_law_drawn" s_law_drawn f cdv A outer s H E).xe := passes_of rfl
  exact (pss_cons (ps_set (i := 1) sc.nd rfl (Or.inl rfl) (pe_lst (pa_cons (pe_ix ix_any (pv 0) pe_int (fun _ _ => rfl)) (pa_cons pe_int (pa_cons (pe_op op_mod (pe_callTy cr_int (by rfl) B.b_int (by decide +kernel) (pa_cons (pe_ix ix_any (pv 0) pe_int (fun _ _ => rfl)) pa_nil)) pe_int) (pa_cons (pe_op opA_add pe_int (pe_op op_mod (pe_callTy cr_int (by rfl) B.b_int (by decide +kernel) (pa_cons (pe_ix ix_any (pv 0) pe_int (fun _ _ => rfl)) pa_nil)) pe_int)) (pa_cons (pe_op op_mod (pe_callTy cr_int (by rfl) B.b_int (by decide +kernel) (pa_cons (pe_ix ix_any (pv 0) pe_int (fun _ _ => rfl)) pa_nil)) pe_int) pa_nil)))))))
    (pss_cons (ps_set (i := 2) sc.nd rfl (Or.inl rfl) (pe_ix ix_any (pv 1) (pe_ix ix_any (pe_lst (pa_cons pe_int (pa_cons pe_int (pa_cons pe_int (pa_cons pe_int (pa_cons pe_int (pa_cons pe_int (pa_cons pe_int (pa_cons pe_int (pa_cons pe_int (pa_cons pe_int (pa_cons pe_int (pa_cons pe_int pa_nil))))))))))))) (pe_ix ix_any (pv 0) pe_int (fun _ _ => rfl)) (fun _ _ => rfl)) (fun _ _ => rfl)))
    (pss_cons (ps_set (i := 3) sc.nd rfl (Or.inl rfl) (pe_ix ix_any (pe_lst (pa_cons pe_int (pa_cons pe_int (pa_cons pe_int (pa_cons pe_int (pa_cons pe_int (pa_cons pe_int (pa_cons pe_int (pa_cons pe_int pa_nil))))))))) (pe_ix ix_any (pv 0) pe_int (fun _ _ => rfl)) (fun _ _ => rfl)))
    (pss_cons (ps_set (i := 4) sc.nd rfl (Or.inl rfl) (pe_lst pa_nil))
    (pss_cons (ps_for hp rfl (pi_range1 (by rfl) B.b_range (pa_cons (pv 2) pa_nil)) (pg_name (i := 5) sc.nd rfl (Or.inl rfl)) (pss_cons (ps_set (i := 6) sc.nd rfl (Or.inl rfl) (pe_slice sl_any (pv 0) (po_some (pe_op opA_add pe_int (pe_op opA_mul pe_int (pv 5)))) (po_some (pe_op opA_add pe_int (pe_op opA_mul pe_int (pv 5))))))
    (pss_cons (ps_set (i := 7) sc.nd rfl (Or.inl rfl) (pe_op op_sub (pe_op op_mod (pe_callTy cr_int (by rfl) B.b_int (by decide +kernel) (pa_cons (pe_op opA_add (pe_ix ix_any (pv 0) pe_int (fun _ _ => rfl)) (pe_op op_mod (pe_callTy cr_int (by rfl) B.b_int (by decide +kernel) (pa_cons (pe_ix ix_any (pv 6) pe_int (fun _ _ => rfl)) pa_nil)) (pv 3))) pa_nil)) pe_int) pe_int))
    (pss_one (ps_expr (pe_bm PySem.F.plainAttrs_list PySem.F.slot_list_append PySem.F.type_list_append mt_append (pv 4) (pa_cons (pe_lst (pa_cons (pv 7) (pa_cons (pe_callD c_law_coefficient (hr.mono (by decide)) (by rfl) tk (pa_cons (pe_ix ix_any (pv 6) pe_int (fun _ _ => rfl)) (pa_cons (pe_ix ix_any (pv 6) pe_int (fun _ _ => rfl)) (pa_cons (pe_ix ix_any (pv 6) pe_int (fun _ _ => rfl)) pa_nil)))) pa_nil))) pa_nil)))))))
    (pss_cons (ps_set (i := 8) sc.nd rfl (Or.inr rfl) (pe_ix ix_any (pe_lst (pa_cons pe_int (pa_cons (pe_un un_neg pe_int) (pa_cons pe_int (pa_cons pe_int pa_nil))))) (pe_ix ix_any (pv 0) pe_int (fun _ _ => rfl)) (fun _ _ => rfl)))
    (pss_cons (ps_if ((pw_and (pt_cmpR (op_eqD hr.units) (pe_ix ix_any (pv 0) pe_int (fun _ _ => rfl)) pe_int (nomark _)) (pw_and1 (pt_cmpR op_le (pe_op opA_mul pe_int (pv 2)) pe_int (nomark _))))).pt (pss_one (ps_ret (pe_op opA_add (pv 4) (pe_lc (own := [("pair", 9)]) (tt := tYes) rfl sc.nd (pi_seq (pv 4)) (blkOk_by (N := N_law_drawn) (sc := defScope s_law_drawn) (by decide +kernel)) (fun _ _ _ _ _ => (pg_name (i := 9) sc.nd rfl (Or.inl rfl))) (fun _ _ _ _ _ => pts_nil) (fun _ _ _ _ _ => (pe_lst (pa_cons (pe_ix ix_any (pv 9) pe_int (fun _ _ => rfl)) (pa_cons (pe_un un_neg (pe_ix ix_any (pv 9) pe_int (fun _ _ => rfl))) pa_nil)))))))) pss_nil)
    (pss_cons (ps_if ((pw_and (pt_cmpR (op_eqD hr.units) (pe_ix ix_any (pv 0) pe_int (fun _ _ => rfl)) pe_int (nomark _)) (pw_and1 (pt_cmpR op_le (pe_op opA_mul pe_int (pv 2)) pe_int (nomark _))))).pt (pss_one (ps_ret (pe_op opA_add (pe_lc (own := [("pair", 9)]) (tt := tYes) rfl sc.nd (pi_seq (pe_slice sl_any (pv 4) po_none (po_some (pe_op opA_div (pv 2) pe_int)))) (blkOk_by (N := N_law_drawn) (sc := defScope s_law_drawn) (by decide +kernel)) (fun _ _ _ _ _ => (pg_name (i := 9) sc.nd rfl (Or.inl rfl))) (fun _ _ _ _ _ => pts_nil) (fun _ _ _ _ _ => (pe_lst (pa_cons (pe_ix ix_any (pv 9) pe_int (fun _ _ => rfl)) (pa_cons (pe_un un_neg (pe_ix ix_any (pv 9) pe_int (fun _ _ => rfl))) pa_nil))))) (pv 4)))) pss_nil)
    (pss_cons (ps_if ((pw_and (pt_cmpR (op_eqD hr.units) (pe_ix ix_any (pv 0) pe_int (fun _ _ => rfl)) pe_int (nomark _)) (pw_and1 (pt_cmpR op_le (pe_callB (cr_max rfl) (by rfl) B.b_max (by decide +kernel) (pa_cons (pe_op opA_add (pe_lst (pa_cons pe_int pa_nil)) (pe_lc (own := [("pair", 9)]) (tt := tYes) rfl sc.nd (pi_seq (pv 4)) (blkOk_by (N := N_law_drawn) (sc := defScope s_law_drawn) (by decide +kernel)) (fun _ _ _ _ _ => (pg_name (i := 9) sc.nd rfl (Or.inl rfl))) (fun _ _ _ _ _ => pts_nil) (fun _ _ _ _ _ => (pe_callB cr_abs (by rfl) B.b_abs (by decide +kernel) (pa_cons (pe_op opA_mul (pe_ix ix_any (pv 9) pe_int (fun _ _ => rfl)) (pv 8)) pa_nil))))) pa_nil)) (pe_op op_pow pe_int pe_int) (nomark _))))).pt (pss_one (ps_ret (pe_lc (own := [("pair", 9)]) (tt := tYes) rfl sc.nd (pi_seq (pv 4)) (blkOk_by (N := N_law_drawn) (sc := defScope s_law_drawn) (by decide +kernel)) (fun _ _ _ _ _ => (pg_name (i := 9) sc.nd rfl (Or.inl rfl))) (fun _ _ _ _ _ => pts_nil) (fun _ _ _ _ _ => (pe_lst (pa_cons (pe_ix ix_any (pv 9) pe_int (fun _ _ => rfl)) (pa_cons (pe_op opA_mul (pe_ix ix_any (pv 9) pe_int (fun _ _ => rfl)) (pv 8)) pa_nil))))))) pss_nil)
    (pss_one (ps_ret (pv 4))))))))))))
def t_law_raw (K : PySem.W.Frag) (W : WX) : TS :=
  (tRet (tCallS (SpF K P_law_drawn.length fr_law_drawn) (WE W) (tCons (tCallS (SpF K P_law_digits.length fr_law_digits) (WE W) (tCons (tCallS (SpF K P_law_cell.length fr_law_cell) (WE W) (tCons (tVar 0) (tCons (tVar 1) tNil))) (tCons (tOp (rAddA K) (tLst (tCons (tC (.int 12)) (tCons (tC (.int 41)) (tCons (tC (.int 41)) (tCons (tC (.int 8)) (tCons (tC (.int 24)) (tCons (tC (.int 4)) tNil))))))) (tOp rMulA (tLst (tCons (tC (.int 41)) (tCons (tC (.int 12)) (tCons (tC (.int 100000)) (tCons (tC (.int 100000)) tNil))))) (tC (.int 40)))) tNil))) tNil)))
theorem cal_law_raw {P : Program} {w : World} {K : PySem.W.Frag} {mg : Str → Option Value} {base : Heap} (A : FunAt K mg "_law_raw" s_law_raw P_law_raw) (B : Bt K mg) (c_law_drawn : Cal P w K mg base 2 "_law_drawn" P_law_drawn fr_law_drawn) (c_law_digits : Cal P w K mg base 1 "_law_digits" P_law_digits fr_law_digits) (c_law_cell : Cal P w K mg base 1 "_law_cell" P_law_cell fr_law_cell)
    (pr : ∀ W ds r, fr_law_raw ds r → FnEnd K W (t_law_raw K W) (entry N_law_raw ds) r) : Cal P w K mg base 3 "_law_raw" P_law_raw fr_law_raw := by
  have sc := sc_law_raw
  refine cal_of A sc _ fun f cdv A outer s H E hr => ⟨t_law_raw K (wD E), ?_, fun ds r h _ => pr _ ds r h⟩
  have tk : L2N.Takes (cxD P w K mg base N_law_raw "_law_raw" s_law_raw f cdv A outer s H E) (wD E) := L2N.takes_of rfl rfl rfl rfl
  have hp : PassesOwn (model P w) (cxD P w K mg base N_law_raw "_law_raw" s_law_raw f cdv A outer s H E).A (cxD P w K mg base N_law_raw "_law_raw" s_law_raw f cdv A outer s H E).env (cxD P w K mg base N_law_raw "_law_raw" s_law_raw f cdv A outer s H E).xe := passes_of rfl
  exact (pss_one (ps_ret (pe_callD c_law_drawn (hr.mono (by decide)) (by rfl) tk (pa_cons (pe_callD c_law_digits (hr.mono (by decide)) (by rfl) tk (pa_cons (pe_callD c_law_cell (hr.mono (by decide)) (by rfl) tk (pa_cons (pv 0) (pa_cons (pv 1) pa_nil))) (pa_cons (pe_op opA_add (pe_lst (pa_cons pe_int (pa_cons pe_int (pa_cons pe_int (pa_cons pe_int (pa_cons pe_int (pa_cons pe_int pa_nil))))))) (pe_op opA_mul (pe_lst (pa_cons pe_int (pa_cons pe_int (pa_cons pe_int (pa_cons pe_int pa_nil))))) pe_int)) pa_nil))) pa_nil))))
def t_law_passed (K : PySem.W.Frag) (W : WX) : TS :=
  (tSeq (tIfS (tTest (tOp (rEqD K) (tVar 1) (tC (.int 0)))) (tRet (tLc (iSeq K (tVar 0)) (gName 2) tYes (tLst (tCons (tOp (rIxA K) (tVar 2) (tC (.int 0))) (tCons (tOp (rIxA K) (tVar 2) (tC (.int 1))) tNil))) [2])) tNext)
    (tSeq (tIfS (tTest (tOp (rEqD K) (tVar 1) (tC (.int 1)))) (tRet (tLc (iSeq K (tVar 0)) (gName 2) tYes (tTup (tCons (tOp (rIxA K) (tVar 2) (tC (.int 0))) (tCons (tOp (rIxA K) (tVar 2) (tC (.int 1))) tNil))) [2])) tNext)
    (tSeq (tIfS (tTest (tOp (rEqD K) (tVar 1) (tC (.int 2)))) (tRet (tCB (rTupC K) (tCons (tLc (iSeq K (tVar 0)) (gName 2) tYes (tLst (tCons (tOp (rIxA K) (tVar 2) (tC (.int 0))) (tCons (tOp (rIxA K) (tVar 2) (tC (.int 1))) tNil))) [2]) tNil))) tNext)
    (tSeq (tIfS (tTest (tOp (rEqD K) (tVar 1) (tC (.int 3)))) (tRet (tCB (rTupC K) (tCons (tLc (iSeq K (tVar 0)) (gName 2) tYes (tTup (tCons (tOp (rIxA K) (tVar 2) (tC (.int 0))) (tCons (tOp (rIxA K) (tVar 2) (tC (.int 1))) tNil))) [2]) tNil))) tNext)
    (tSeq (tAsg (tLst tNil) (gName 3))
    (tSeq (tFor (iSeq K (tVar 0)) (gName 2) (tIfS (tOr (tTest (tOp (rEqD K) (tCB (rLenA K) (tCons (tVar 3) tNil)) (tC (.int 1)))) (tTest (tOp (rEqD K) (tCB (rLenA K) (tCons (tVar 3) tNil)) (tC (.int 2))))) (tDrop (tBM K "list" rAppend (tVar 3) (tCons (tLst (tCons (tOp (rIxA K) (tVar 2) (tC (.int 0))) (tCons (tOp (rIxA K) (tVar 2) (tC (.int 1))) tNil))) tNil))) (tDrop (tBM K "list" rAppend (tVar 3) (tCons (tTup (tCons (tOp (rIxA K) (tVar 2) (tC (.int 0))) (tCons (tOp (rIxA K) (tVar 2) (tC (.int 1))) tNil))) tNil)))))
    (tRet (tVar 3))))))))
theorem cal_law_passed {P : Program} {w : World} {K : PySem.W.Frag} {mg : Str → Option Value} {base : Heap} (A : FunAt K mg "_law_passed" s_law_passed P_law_passed) (B : Bt K mg)
    (pr : ∀ W ds r, fr_law_passed ds r → FnEnd K W (t_law_passed K W) (entry N_law_passed ds) r) : Cal P w K mg base 1 "_law_passed" P_law_passed fr_law_passed := by
  have sc := sc_law_passed
  refine cal_of A sc _ fun f cdv A outer s H E hr => ⟨t_law_passed K (wD E), ?_, fun ds r h _ => pr _ ds r h⟩
  have tk : L2N.Takes (cxD P w K mg base N_law_passed "_law_passed" s_law_passed f cdv A outer s H E) (wD E) := L2N.takes_of rfl rfl rfl rfl
  have hp : PassesOwn (model P w) (cxD P w K mg base N_law_passed "_law_passed" s_law_passed f cdv A outer s H E).A (cxD P w K mg base N_law_passed "_law_passed" s_law_passed f cdv A outer s H E).env (cxD P w K mg base N_law_passed "_law_passed" s_law_passed f cdv A outer s H E).xe := passes_of rfl
  exact (pss_cons (ps_if (pt_cmpR (op_eqD hr.units) (pv 1) pe_int (nomark _)) (pss_one (ps_ret (pe_lc (own := [("pair", 2)]) (tt := tYes) rfl sc.nd (pi_seq (pv 0)) (blkOk_by (N := N_law_passed) (sc := defScope s_law_passed) (by decide +kernel)) (fun _ _ _ _ _ => (pg_name (i := 2) sc.nd rfl (Or.inl rfl))) (fun _ _ _ _ _ => pts_nil) (fun _ _ _ _ _ => (pe_lst (pa_cons (pe_ix ix_any (pv 2) pe_int (fun _ _ => rfl)) (pa_cons (pe_ix ix_any (pv 2) pe_int (fun _ _ => rfl)) pa_nil))))))) pss_nil)
    (pss_cons (ps_if (pt_cmpR (op_eqD hr.units) (pv 1) pe_int (nomark _)) (pss_one (ps_ret (pe_lc (own := [("pair", 2)]) (tt := tYes) rfl sc.nd (pi_seq (pv 0)) (blkOk_by (N := N_law_passed) (sc := defScope s_law_passed) (by decide +kernel)) (fun _ _ _ _ _ => (pg_name (i := 2) sc.nd rfl (Or.inl rfl))) (fun _ _ _ _ _ => pts_nil) (fun _ _ _ _ _ => (pe_tup (pa_cons (pe_ix ix_any (pv 2) pe_int (fun _ _ => rfl)) (pa_cons (pe_ix ix_any (pv 2) pe_int (fun _ _ => rfl)) pa_nil))))))) pss_nil)
    (pss_cons (ps_if (pt_cmpR (op_eqD hr.units) (pv 1) pe_int (nomark _)) (pss_one (ps_ret (pe_callTy call_tuple_of (by rfl) B.b_tuple (by decide +kernel) (pa_cons (pe_lc (own := [("pair", 2)]) (tt := tYes) rfl sc.nd (pi_seq (pv 0)) (blkOk_by (N := N_law_passed) (sc := defScope s_law_passed) (by decide +kernel)) (fun _ _ _ _ _ => (pg_name (i := 2) sc.nd rfl (Or.inl rfl))) (fun _ _ _ _ _ => pts_nil) (fun _ _ _ _ _ => (pe_lst (pa_cons (pe_ix ix_any (pv 2) pe_int (fun _ _ => rfl)) (pa_cons (pe_ix ix_any (pv 2) pe_int (fun _ _ => rfl)) pa_nil))))) pa_nil)))) pss_nil)
    (pss_cons (ps_if (pt_cmpR (op_eqD hr.units) (pv 1) pe_int (nomark _)) (pss_one (ps_ret (pe_callTy call_tuple_of (by rfl) B.b_tuple (by decide +kernel) (pa_cons (pe_lc (own := [("pair", 2)]) (tt := tYes) rfl sc.nd (pi_seq (pv 0)) (blkOk_by (N := N_law_passed) (sc := defScope s_law_passed) (by decide +kernel)) (fun _ _ _ _ _ => (pg_name (i := 2) sc.nd rfl (Or.inl rfl))) (fun _ _ _ _ _ => pts_nil) (fun _ _ _ _ _ => (pe_tup (pa_cons (pe_ix ix_any (pv 2) pe_int (fun _ _ => rfl)) (pa_cons (pe_ix ix_any (pv 2) pe_int (fun _ _ => rfl)) pa_nil))))) pa_nil)))) pss_nil)
    (pss_cons (ps_set (i := 3) sc.nd rfl (Or.inl rfl) (pe_lst pa_nil))
    (pss_cons (ps_for hp rfl (pi_seq (pv 0)) (pg_name (i := 2) sc.nd rfl (Or.inl rfl)) (pss_one (ps_if ((pw_or (pt_cmpR (op_eqD hr.units) (pe_callB cr_lenA (by rfl) B.b_len (by decide +kernel) (pa_cons (pv 3) pa_nil)) pe_int (nomark _)) (pw_or1 (pt_cmpR (op_eqD hr.units) (pe_callB cr_lenA (by rfl) B.b_len (by decide +kernel) (pa_cons (pv 3) pa_nil)) pe_int (nomark _))))).pt (pss_one (ps_expr (pe_bm PySem.F.plainAttrs_list PySem.F.slot_list_append PySem.F.type_list_append mt_append (pv 3) (pa_cons (pe_lst (pa_cons (pe_ix ix_any (pv 2) pe_int (fun _ _ => rfl)) (pa_cons (pe_ix ix_any (pv 2) pe_int (fun _ _ => rfl)) pa_nil))) pa_nil)))) (pss_one (ps_expr (pe_bm PySem.F.plainAttrs_list PySem.F.slot_list_append PySem.F.type_list_append mt_append (pv 3) (pa_cons (pe_tup (pa_cons (pe_ix ix_any (pv 2) pe_int (fun _ _ => rfl)) (pa_cons (pe_ix ix_any (pv 2) pe_int (fun _ _ => rfl)) pa_nil))) pa_nil)))))))
    (pss_one (ps_ret (pv 3)))))))))
def t_law_small (K : PySem.W.Frag) (W : WX) : TS :=
  (tRet (tCallS (SpF K P_law_poly.length fr_law_poly) (WE W) (tCons (tLc (iRng1 (tCons (tVar 1) tNil)) (gName 2) tYes (tLst (tCons (tOp (rI0 fun i j => .int (i - j)) (tCB rIntC (tCons (tOp (rIxA K) (tVar 0) (tOp (rAddA K) (tC (.int 1)) (tOp rMulA (tC (.int 2)) (tVar 2)))) tNil)) (tC (.int 4))) (tCons (tOp (rI0 fun i j => .int (i - j)) (tCB rIntC (tCons (tOp (rIxA K) (tVar 0) (tOp (rAddA K) (tC (.int 2)) (tOp rMulA (tC (.int 2)) (tVar 2)))) tNil)) (tC (.int 12))) tNil))) [2]) tNil)))
theorem cal_law_small {P : Program} {w : World} {K : PySem.W.Frag} {mg : Str → Option Value} {base : Heap} (A : FunAt K mg "_law_small" s_law_small P_law_small) (B : Bt K mg) (c_law_poly : Cal P w K mg base 1 "_law_poly" P_law_poly fr_law_poly)
    (pr : ∀ W ds r, fr_law_small ds r → FnEnd K W (t_law_small K W) (entry N_law_small ds) r) : Cal P w K mg base 2 "_law_small" P_law_small fr_law_small := by
  have sc := sc_law_small
  refine cal_of A sc _ fun f cdv A outer s H E hr => ⟨t_law_small K (wD E), ?_, fun ds r h _ => pr _ ds r h⟩
  have tk : L2N.Takes (cxD P w K mg base N_law_small "_law_small" s_law_small f cdv A outer s H E) (wD E) := L2N.takes_of rfl rfl rfl rfl
  have hp : PassesOwn (model P w) (cxD P w K mg base N_law_small "_law_small" s_law_small f cdv A outer s H E).A (cxD P w K mg base N_law_small "_law_small" s_law_small f cdv A outer s H E).env (cxD P w K mg base N_law_small "_law_small" s_law_small f cdv A outer s H E).xe := passes_of rfl
  exact (pss_one (ps_ret (pe_callD c_law_poly (hr.mono (by decide)) (by rfl) tk (pa_cons (pe_lc (own := [("k", 2)]) (tt := tYes) rfl sc.nd (pi_range1 (by rfl) B.b_range (pa_cons (pv 1) pa_nil)) (blkOk_by (N := N_law_small) (sc := defScope s_law_small) (by decide +kernel)) (fun _ _ _ _ _ => (pg_name (i := 2) sc.nd rfl (Or.inl rfl))) (fun _ _ _ _ _ => pts_nil) (fun _ _ _ _ _ => (pe_lst (pa_cons (pe_op op_sub (pe_callTy cr_int (by rfl) B.b_int (by decide +kernel) (pa_cons (pe_ix ix_any (pv 0) (pe_op opA_add pe_int (pe_op opA_mul pe_int (pv 2))) (fun _ _ => rfl)) pa_nil)) pe_int) (pa_cons (pe_op op_sub (pe_callTy cr_int (by rfl) B.b_int (by decide +kernel) (pa_cons (pe_ix ix_any (pv 0) (pe_op opA_add pe_int (pe_op opA_mul pe_int (pv 2))) (fun _ _ => rfl)) pa_nil)) pe_int) pa_nil))))) pa_nil))))
def t_law_other_than_zero (K : PySem.W.Frag) (W : WX) : TS :=
  (tSeq (tIfS (tTest (tOp (rEqD K) (tCB rLenD (tCons (tVar 0) tNil)) (tC (.int 0)))) (tRet (tDisp [((tC (.int 0)), (tC (.int 1)))])) tNext)
    (tRet (tVar 0)))
theorem cal_law_other_than_zero {P : Program} {w : World} {K : PySem.W.Frag} {mg : Str → Option Value} {base : Heap} (A : FunAt K mg "_law_other_than_zero" s_law_other_than_zero P_law_other_than_zero) (B : Bt K mg)
    (pr : ∀ W ds r, fr_law_other_than_zero ds r → FnEnd K W (t_law_other_than_zero K W) (entry N_law_other_than_zero ds) r) : Cal P w K mg base 1 "_law_other_than_zero" P_law_other_than_zero fr_law_other_than_zero := by
  have sc := sc_law_other_than_zero
  refine cal_of A sc _ fun f cdv A outer s H E hr => ⟨t_law_other_than_zero K (wD E), ?_, fun ds r h _ => pr _ ds r h⟩
  have tk : L2N.Takes (cxD P w K mg base N_law_other_than_zero "_law_other_than_zero" s_law_other_than_zero f cdv A outer s H E) (wD E) := L2N.takes_of rfl rfl rfl rfl
  have hp : PassesOwn (model P w) (cxD P w K mg base N_law_other_than_zero "_law_other_than_zero" s_law_other_than_zero f cdv A outer s H E).A (cxD P w K mg base N_law_other_than_zero "_law_other_than_zero" s_law_other_than_zero f cdv A outer s H E).env (cxD P w K mg base N_law_other_than_zero "_law_other_than_zero" s_law_other_than_zero f cdv A outer s H E).xe := passes_of rfl
  exact (pss_cons (ps_if (pt_cmpR (op_eqD hr.units) (pe_callB cr_lenD (by rfl) B.b_len (by decide +kernel) (pa_cons (pv 0) pa_nil)) pe_int (nomark _)) (pss_one (ps_ret (pe_disp (pps_cons pe_int pe_int pps_nil) rfl rfl (by decide) (by decide)))) pss_nil)
    (pss_one (ps_ret (pv 0))))
def t_law_kept (K : PySem.W.Frag) (W : WX) : TS :=
  (tSeq (tIfS (tTest (tOp (rI0 fun i j => .bl (decide (j < i))) (tCB rLenD (tCons (tVar 0) tNil)) (tC (.int 40)))) (tRet (tVar 1)) tNext)
    (tSeq (tLockA (tFor (iSeq K (tVar 0)) (gName 2) (tIfS (tOr (tTest (tOp (rI0 fun i j => .bl (decide (j < i))) (tCB rAbsC (tCons (tVar 2) tNil)) (tC (.int 20)))) (tTest (tOp (rI0 fun i j => .bl (decide (j < i))) (tCB rAbsC (tCons (tDGet (tVar 0) (tVar 2)) tNil)) (tOp (rI CPow fun i j => .int (i ^ j.toNat)) (tC (.int 10)) (tC (.int 9)))))) (tRet (tVar 1)) tNext)))
    (tRet (tLockEA (tLc (iSeq K (tVar 0)) (gName 2) tYes (tLst (tCons (tVar 2) (tCons (tDGet (tVar 0) (tVar 2)) tNil))) [2])))))
theorem cal_law_kept {P : Program} {w : World} {K : PySem.W.Frag} {mg : Str → Option Value} {base : Heap} (A : FunAt K mg "_law_kept" s_law_kept P_law_kept) (B : Bt K mg)
    (pr : ∀ W ds r, fr_law_kept ds r → FnEnd K W (t_law_kept K W) (entry N_law_kept ds) r) : Cal P w K mg base 1 "_law_kept" P_law_kept fr_law_kept := by
  have sc := sc_law_kept
  refine cal_of A sc _ fun f cdv A outer s H E hr => ⟨t_law_kept K (wD E), ?_, fun ds r h _ => pr _ ds r h⟩
  have tk : L2N.Takes (cxD P w K mg base N_law_kept "_law_kept" s_law_kept f cdv A outer s H E) (wD E) := L2N.takes_of rfl rfl rfl rfl
  have hp : PassesOwn (model P w) (cxD P w K mg base N_law_kept "_law_kept" s_law_kept f cdv A outer s H E).A (cxD P w K mg base N_law_kept "_law_kept" s_law_kept f cdv A outer s H E).env (cxD P w K mg base N_law_kept "_law_kept" s_law_kept f cdv A outer s H E).xe := passes_of rfl
  exact (pss_cons (ps_if (pt_cmpR op_gt (pe_callB cr_lenD (by rfl) B.b_len (by decide +kernel) (pa_cons (pv 0) pa_nil)) pe_int (nomark _)) (pss_one (ps_ret (pv 1))) pss_nil)
    (pss_cons (ps_lockA (ps_for hp rfl (pi_seq (pv 0)) (pg_name (i := 2) sc.nd rfl (Or.inl rfl)) (pss_one (ps_if ((pw_or (pt_cmpR op_gt (pe_callB cr_abs (by rfl) B.b_abs (by decide +kernel) (pa_cons (pv 2) pa_nil)) pe_int (nomark _)) (pw_or1 (pt_cmpR op_gt (pe_callB cr_abs (by rfl) B.b_abs (by decide +kernel) (pa_cons (pe_dget (hu_of hr) (pv 0) (pv 2) (fun _ _ => rfl)) pa_nil)) (pe_op op_pow pe_int pe_int) (nomark _))))).pt (pss_one (ps_ret (pv 1))) pss_nil))))
    (pss_one (ps_ret (pe_lockA (pe_lc (own := [("shift", 2)]) (tt := tYes) rfl sc.nd (pi_seq (pv 0)) (blkOk_by (N := N_law_kept) (sc := defScope s_law_kept) (by decide +kernel)) (fun _ _ _ _ _ => (pg_name (i := 2) sc.nd rfl (Or.inl rfl))) (fun _ _ _ _ _ => pts_nil) (fun _ _ _ _ _ => (pe_lst (pa_cons (pv 2) (pa_cons (pe_dget (hu_of hr) (pv 0) (pv 2) (fun _ _ => rfl)) pa_nil))))))))))
def t_law_two (K : PySem.W.Frag) (W : WX) : TS :=
  (tSeq (tAsg (tOp (rIxA K) (tLst (tCons (tC (.int 2)) (tCons (tC (.int 3)) (tCons (tUn (rU fun i => .int (-i)) (tC (.int 1))) (tCons (tUn (rU fun i => .int (-i)) (tC (.int 6))) (tCons (tC (.int 10)) (tCons (tC (.int 1)) (tCons (tC (.int 7)) (tCons (tC (.int 360)) tNil))))))))) (tOp (rIxA K) (tVar 2) (tC (.int 1)))) (gName 3))
    (tSeq (tAsg (tCallS (SpF K P_law_other_than_zero.length fr_law_other_than_zero) (WE W) (tCons (tCallS (SpF K P_law_small.length fr_law_small) (WE W) (tCons (tSl (rSlAny K) (tVar 2) (tPart (tC (.int 3))) (tPart (tC (.int 14)))) (tCons (tOp (rAddA K) (tC (.int 1)) (tOp (rIxA K) (tVar 2) (tC (.int 3)))) tNil))) tNil)) (gName 4))
    (tSeq (tAsg (tCallS (SpF K P_law_other_than_zero.length fr_law_other_than_zero) (WE W) (tCons (tCallS (SpF K P_law_small.length fr_law_small) (WE W) (tCons (tSl (rSlAny K) (tVar 2) (tPart (tC (.int 14))) (tPart (tC (.int 25)))) (tCons (tOp (rAddA K) (tC (.int 2)) (tOp (rIxA K) (tVar 2) (tC (.int 14)))) tNil))) tNil)) (gName 5))
    (tSeq (tAsg (tCallS (SpF K P_law_mul.length fr_law_mul) (WE W) (tCons (tVar 4) (tCons (tVar 5) tNil))) (gName 6))
    (tSeq (tAsg (tCallS (SpF K P_law_add.length fr_law_add) (WE W) (tCons (tVar 6) (tCons (tCallS (SpF K P_law_small.length fr_law_small) (WE W) (tCons (tSl (rSlAny K) (tVar 2) (tPart (tC (.int 25))) (tPart (tC (.int 32)))) (tCons (tOp (rIxA K) (tVar 2) (tC (.int 25))) tNil))) (tCons (tC (.int 1)) tNil)))) (gName 7))
    (tSeq (tIfS (tTest (tOp (rEqD K) (tOp (rIxA K) (tVar 2) (tC (.int 0))) (tC (.int 0)))) (tRet (tLst (tCons (tCallS (SpF K P_law_kept.length fr_law_kept) (WE W) (tCons (tVar 6) (tCons (tVar 0) tNil))) (tCons (tCallS (SpF K P_law_kept.length fr_law_kept) (WE W) (tCons (tCallS (SpF K P_law_mul.length fr_law_mul) (WE W) (tCons (tVar 5) (tCons (tDisp [((tOp (rI0 fun i j => .int (i - j)) (tOp (rIxA K) (tVar 2) (tC (.int 2))) (tC (.int 8))), (tVar 3))]) tNil))) (tCons (tVar 1) tNil))) tNil)))) tNext)
    (tSeq (tIfS (tTest (tOp (rEqD K) (tOp (rIxA K) (tVar 2) (tC (.int 0))) (tC (.int 1)))) (tRet (tLst (tCons (tCallS (SpF K P_law_kept.length fr_law_kept) (WE W) (tCons (tVar 5) (tCons (tVar 0) tNil))) (tCons (tCallS (SpF K P_law_kept.length fr_law_kept) (WE W) (tCons (tVar 6) (tCons (tVar 1) tNil))) tNil)))) tNext)
    (tSeq (tIfS (tTest (tOp (rI0 fun i j => .bl (decide (i < j))) (tOp (rIxA K) (tVar 2) (tC (.int 0))) (tC (.int 5)))) (tRet (tLst (tCons (tCallS (SpF K P_law_kept.length fr_law_kept) (WE W) (tCons (tVar 7) (tCons (tVar 0) tNil))) (tCons (tCallS (SpF K P_law_kept.length fr_law_kept) (WE W) (tCons (tVar 5) (tCons (tVar 1) tNil))) tNil)))) tNext)
    (tSeq (tIfS (tTest (tOp (rEqD K) (tOp (rIxA K) (tVar 2) (tC (.int 0))) (tC (.int 5)))) (tRet (tLst (tCons (tVar 0) (tCons (tLst (tCons (tLst (tCons (tOp (rI0 fun i j => .int (i - j)) (tOp (rIxA K) (tVar 2) (tC (.int 2))) (tC (.int 8))) (tCons (tVar 3) tNil))) tNil)) tNil)))) tNext)
    (tSeq (tIfS (tTest (tOp (rEqD K) (tOp (rIxA K) (tVar 2) (tC (.int 0))) (tC (.int 6)))) (tRet (tLst (tCons (tVar 0) (tCons (tLst (tCons (tLst (tCons (tC (.int 3)) (tCons (tVar 3) tNil))) (tCons (tLst (tCons (tC (.int 3)) (tCons (tUn (rU fun i => .int (-i)) (tVar 3)) tNil))) tNil))) tNil)))) tNext)
    (tSeq (tIfS (tTest (tOp (rEqD K) (tOp (rIxA K) (tVar 2) (tC (.int 0))) (tC (.int 7)))) (tRet (tLst (tCons (tLst (tCons (tLst (tCons (tC (.int 0)) (tCons (tC (.int 0)) tNil))) tNil)) (tCons (tOp (rIxA K) (tLst (tCons (tVar 1) (tCons (tLst tNil) tNil))) (tCB rIntC (tCons (tOp (rI0 fun i j => .bl (decide (i < j))) (tOp (rIxA K) (tVar 2) (tC (.int 2))) (tC (.int 4))) tNil))) tNil)))) tNext)
    (tSeq (tIfS (tTest (tOp (rEqD K) (tOp (rIxA K) (tVar 2) (tC (.int 0))) (tC (.int 8)))) (tRet (tLst (tCons (tCallS (SpF K P_law_kept.length fr_law_kept) (WE W) (tCons (tCallS (SpF K P_law_mul.length fr_law_mul) (WE W) (tCons (tCallS (SpF K P_law_poly.length fr_law_poly) (WE W) (tCons (tVar 1) tNil)) (tCons (tDisp [((tOp (rI0 fun i j => .int (i - j)) (tOp (rIxA K) (tVar 2) (tC (.int 2))) (tC (.int 8))), (tVar 3))]) tNil))) (tCons (tVar 0) tNil))) (tCons (tVar 1) tNil)))) tNext)
    (tRet (tLst (tCons (tVar 0) (tCons (tVar 1) tNil))))))))))))))))
theorem cal_law_two {P : Program} {w : World} {K : PySem.W.Frag} {mg : Str → Option Value} {base : Heap} (A : FunAt K mg "_law_two" s_law_two P_law_two) (B : Bt K mg) (c_law_other_than_zero : Cal P w K mg base 1 "_law_other_than_zero" P_law_other_than_zero fr_law_other_than_zero) (c_law_small : Cal P w K mg base 2 "_law_small" P_law_small fr_law_small) (c_law_mul : Cal P w K mg base 2 "_law_mul" P_law_mul fr_law_mul) (c_law_add : Cal P w K mg base 2 "_law_add" P_law_add fr_law_add) (c_law_kept : Cal P w K mg base 1 "_law_kept" P_law_kept fr_law_kept) (c_law_poly : Cal P w K mg base 1 "_law_poly" P_law_poly fr_law_poly)
    (pr : ∀ W ds r, fr_law_two ds r → FnEnd K W (t_law_two K W) (entry N_law_two ds) r) : Cal P w K mg base 3 "_law_two" P_law_two fr_law_two := by
  have sc := sc_law_two
  refine cal_of A sc _ fun f cdv A outer s H E hr => ⟨t_law_two K (wD E), ?_, fun ds r h _ => pr _ ds r h⟩
  have tk : L2N.Takes (cxD P w K mg base N_law_two "_law_two" s_law_two f cdv A outer s H E) (wD E) := L2N.takes_of rfl rfl rfl rfl
  have hp : PassesOwn (model P w) (cxD P w K mg base N_law_two "_law_two" s_law_two f cdv A outer s H E).A (cxD P w K mg base N_law_two "_law_two" s_law_two f cdv A outer s H E).env (cxD P w K mg base N_law_two "_law_two" s_law_two f cdv A outer s H E).xe := passes_of rfl
  exact (pss_cons (ps_set (i := 3) sc.nd rfl (Or.inl rfl) (pe_ix ix_any (pe_lst (pa_cons pe_int (pa_cons pe_int (pa_cons (pe_un un_neg pe_int) (pa_cons (pe_un un_neg pe_int) (pa_cons pe_int (pa_cons pe_int (pa_cons pe_int (pa_cons pe_int pa_nil))))))))) (pe_ix ix_any (pv 2) pe_int (fun _ _ => rfl)) (fun _ _ => rfl)))
    (pss_cons (ps_set (i := 4) sc.nd rfl (Or.inl rfl) (pe_callD c_law_other_than_zero (hr.mono (by decide)) (by rfl) tk (pa_cons (pe_callD c_law_small (hr.mono (by decide)) (by rfl) tk (pa_cons (pe_slice sl_any (pv 2) (po_some pe_int) (po_some pe_int)) (pa_cons (pe_op opA_add pe_int (pe_ix ix_any (pv 2) pe_int (fun _ _ => rfl))) pa_nil))) pa_nil)))
    (pss_cons (ps_set (i := 5) sc.nd rfl (Or.inl rfl) (pe_callD c_law_other_than_zero (hr.mono (by decide)) (by rfl) tk (pa_cons (pe_callD c_law_small (hr.mono (by decide)) (by rfl) tk (pa_cons (pe_slice sl_any (pv 2) (po_some pe_int) (po_some pe_int)) (pa_cons (pe_op opA_add pe_int (pe_ix ix_any (pv 2) pe_int (fun _ _ => rfl))) pa_nil))) pa_nil)))
    (pss_cons (ps_set (i := 6) sc.nd rfl (Or.inl rfl) (pe_callD c_law_mul (hr.mono (by decide)) (by rfl) tk (pa_cons (pv 4) (pa_cons (pv 5) pa_nil))))
    (pss_cons (ps_set (i := 7) sc.nd rfl (Or.inl rfl) (pe_callD c_law_add (hr.mono (by decide)) (by rfl) tk (pa_cons (pv 6) (pa_cons (pe_callD c_law_small (hr.mono (by decide)) (by rfl) tk (pa_cons (pe_slice sl_any (pv 2) (po_some pe_int) (po_some pe_int)) (pa_cons (pe_ix ix_any (pv 2) pe_int (fun _ _ => rfl)) pa_nil))) (pa_cons pe_int pa_nil)))))
    (pss_cons (ps_if (pt_cmpR (op_eqD hr.units) (pe_ix ix_any (pv 2) pe_int (fun _ _ => rfl)) pe_int (nomark _)) (pss_one (ps_ret (pe_lst (pa_cons (pe_callD c_law_kept (hr.mono (by decide)) (by rfl) tk (pa_cons (pv 6) (pa_cons (pv 0) pa_nil))) (pa_cons (pe_callD c_law_kept (hr.mono (by decide)) (by rfl) tk (pa_cons (pe_callD c_law_mul (hr.mono (by decide)) (by rfl) tk (pa_cons (pv 5) (pa_cons (pe_disp (pps_cons (pe_op op_sub (pe_ix ix_any (pv 2) pe_int (fun _ _ => rfl)) pe_int) (pv 3) pps_nil) rfl rfl (by decide) (by decide)) pa_nil))) (pa_cons (pv 1) pa_nil))) pa_nil))))) pss_nil)
    (pss_cons (ps_if (pt_cmpR (op_eqD hr.units) (pe_ix ix_any (pv 2) pe_int (fun _ _ => rfl)) pe_int (nomark _)) (pss_one (ps_ret (pe_lst (pa_cons (pe_callD c_law_kept (hr.mono (by decide)) (by rfl) tk (pa_cons (pv 5) (pa_cons (pv 0) pa_nil))) (pa_cons (pe_callD c_law_kept (hr.mono (by decide)) (by rfl) tk (pa_cons (pv 6) (pa_cons (pv 1) pa_nil))) pa_nil))))) pss_nil)
    (pss_cons (ps_if (pt_cmpR op_lt (pe_ix ix_any (pv 2) pe_int (fun _ _ => rfl)) pe_int (nomark _)) (pss_one (ps_ret (pe_lst (pa_cons (pe_callD c_law_kept (hr.mono (by decide)) (by rfl) tk (pa_cons (pv 7) (pa_cons (pv 0) pa_nil))) (pa_cons (pe_callD c_law_kept (hr.mono (by decide)) (by rfl) tk (pa_cons (pv 5) (pa_cons (pv 1) pa_nil))) pa_nil))))) pss_nil)
    (pss_cons (ps_if (pt_cmpR (op_eqD hr.units) (pe_ix ix_any (pv 2) pe_int (fun _ _ => rfl)) pe_int (nomark _)) (pss_one (ps_ret (pe_lst (pa_cons (pv 0) (pa_cons (pe_lst (pa_cons (pe_lst (pa_cons (pe_op op_sub (pe_ix ix_any (pv 2) pe_int (fun _ _ => rfl)) pe_int) (pa_cons (pv 3) pa_nil))) pa_nil)) pa_nil))))) pss_nil)
    (pss_cons (ps_if (pt_cmpR (op_eqD hr.units) (pe_ix ix_any (pv 2) pe_int (fun _ _ => rfl)) pe_int (nomark _)) (pss_one (ps_ret (pe_lst (pa_cons (pv 0) (pa_cons (pe_lst (pa_cons (pe_lst (pa_cons pe_int (pa_cons (pv 3) pa_nil))) (pa_cons (pe_lst (pa_cons pe_int (pa_cons (pe_un un_neg (pv 3)) pa_nil))) pa_nil))) pa_nil))))) pss_nil)
    (pss_cons (ps_if (pt_cmpR (op_eqD hr.units) (pe_ix ix_any (pv 2) pe_int (fun _ _ => rfl)) pe_int (nomark _)) (pss_one (ps_ret (pe_lst (pa_cons (pe_lst (pa_cons (pe_lst (pa_cons pe_int (pa_cons pe_int pa_nil))) pa_nil)) (pa_cons (pe_ix ix_any (pe_lst (pa_cons (pv 1) (pa_cons (pe_lst pa_nil) pa_nil))) (pe_callTy cr_int (by rfl) B.b_int (by decide +kernel) (pa_cons (pe_cmpR op_lt (pe_ix ix_any (pv 2) pe_int (fun _ _ => rfl)) pe_int (nomark _)) pa_nil)) (fun _ _ => rfl)) pa_nil))))) pss_nil)
    (pss_cons (ps_if (pt_cmpR (op_eqD hr.units) (pe_ix ix_any (pv 2) pe_int (fun _ _ => rfl)) pe_int (nomark _)) (pss_one (ps_ret (pe_lst (pa_cons (pe_callD c_law_kept (hr.mono (by decide)) (by rfl) tk (pa_cons (pe_callD c_law_mul (hr.mono (by decide)) (by rfl) tk (pa_cons (pe_callD c_law_poly (hr.mono (by decide)) (by rfl) tk (pa_cons (pv 1) pa_nil)) (pa_cons (pe_disp (pps_cons (pe_op op_sub (pe_ix ix_any (pv 2) pe_int (fun _ _ => rfl)) pe_int) (pv 3) pps_nil) rfl rfl (by decide) (by decide)) pa_nil))) (pa_cons (pv 0) pa_nil))) (pa_cons (pv 1) pa_nil))))) pss_nil)
    (pss_one (ps_ret (pe_lst (pa_cons (pv 0) (pa_cons (pv 1) pa_nil)))))))))))))))))
def t_law_another (K : PySem.W.Frag) (a : Addr) (cls : Value) (d : Option Addr) (W : WX) : TS :=
  (tRet (tCB (rIsY K a cls d) (tCons (tVar 0) (tCons (tTup (tCons (tC (.ref (He.ga K "BadName"))) (tCons (tC (.ref (He.ga K "BadNotation"))) (tCons (tC (.ref (He.ga K "BadParts"))) (tCons (tC (.ref (He.ga K "BadStretch"))) (tCons (tC (.ref (He.ga K "Barred"))) (tCons (tC (.ref (He.ga K "BreaksOwnRule"))) (tCons (tC (.ref (He.ga K "Broken"))) (tCons (tC (.ref (He.ga K "CannotStand"))) (tCons (tC (.ref (He.ga K "Contradiction"))) (tCons (tC (.ref (He.ga K "NoFamilies"))) (tCons (tC (.ref (He.ga K "NoQuotient"))) (tCons (tC (.ref (He.ga K "NoRows"))) (tCons (tC (.ref (He.ga K "NotBlocked"))) (tCons (tC (.ref (He.ga K "NotCourse"))) (tCons (tC (.ref (He.ga K "NotEntered"))) (tCons (tC (.ref (He.ga K "NotFinite"))) (tCons (tC (.ref (He.ga K "NotFree"))) (tCons (tC (.ref (He.ga K "NotLet"))) (tCons (tC (.ref (He.ga K "NotStricter"))) (tCons (tC (.ref (He.ga K "NotTimely"))) (tCons (tC (.ref (He.ga K "NothingToUndo"))) (tCons (tC (.ref (He.ga K "RowTwice"))) (tCons (tC (.ref (He.ga K "RowsDiffer"))) (tCons (tC (.ref (He.ga K "ShortStretch"))) (tCons (tC (.ref (He.ga K "SpotTwice"))) (tCons (tC (.ref (He.ga K "TooLong"))) (tCons (tC (.ref (He.ga K "UnknownRow"))) (tCons (tC (.ref (He.ga K "Unsure"))) (tCons (tC (.ref (He.ga K "ZeroSum"))) tNil)))))))))))))))))))))))))))))) tNil))))
theorem cal_law_another {P : Program} {w : World} {K : PySem.W.Frag} {mg : Str → Option Value} {base : Heap} (A : FunAt K mg "_law_another" s_law_another P_law_another) (B : Bt K mg)
    (pr : ∀ W a C ds r, (fr_law_another K) a C ds r → FnEnd K W (t_law_another K a (.ref C) none W) (entry N_law_another ds) r) : CalX P w K mg base 1 "_law_another" P_law_another (fr_law_another K) := by
  have sc := sc_law_another
  refine calX_of A sc _ fun f cdv A outer s H E p hot hr hf => ⟨t_law_another K p.1 p.2.cls p.2.dict (wD E), ?_, fun C h1 h2 ds r h _ => by rw [h1, h2]; exact pr _ _ _ ds r h⟩
  obtain ⟨a, oe⟩ := p
  have tk : L2N.Takes (L2H.cxH (L2N.CX P w) P w K mg base N_law_another "_law_another" (defScope s_law_another) f cdv A outer s H E (a, oe)) W0 := takesN
  exact (pss_one (ps_ret (pe_callB (cr_isY (List.mem_cons_self) ⟨rfl, rfl⟩ hf) (by rfl) B.b_isinstance (by decide +kernel) (pa_cons (pv 0) (pa_cons (pe_tup (pa_cons (pe_glob (v := .ref (He.ga K "BadName")) (by rfl) B.g_BadName rfl) (pa_cons (pe_glob (v := .ref (He.ga K "BadNotation")) (by rfl) B.g_BadNotation rfl) (pa_cons (pe_glob (v := .ref (He.ga K "BadParts")) (by rfl) B.g_BadParts rfl) (pa_cons (pe_glob (v := .ref (He.ga K "BadStretch")) (by rfl) B.g_BadStretch rfl) (pa_cons (pe_glob (v := .ref (He.ga K "Barred")) (by rfl) B.g_Barred rfl) (pa_cons (pe_glob (v := .ref (He.ga K "BreaksOwnRule")) (by rfl) B.g_BreaksOwnRule rfl) (pa_cons (pe_glob (v := .ref (He.ga K "Broken")) (by rfl) B.g_Broken rfl) (pa_cons (pe_glob (v := .ref (He.ga K "CannotStand")) (by rfl) B.g_CannotStand rfl) (pa_cons (pe_glob (v := .ref (He.ga K "Contradiction")) (by rfl) B.g_Contradiction rfl) (pa_cons (pe_glob (v := .ref (He.ga K "NoFamilies")) (by rfl) B.g_NoFamilies rfl) (pa_cons (pe_glob (v := .ref (He.ga K "NoQuotient")) (by rfl) B.g_NoQuotient rfl) (pa_cons (pe_glob (v := .ref (He.ga K "NoRows")) (by rfl) B.g_NoRows rfl) (pa_cons (pe_glob (v := .ref (He.ga K "NotBlocked")) (by rfl) B.g_NotBlocked rfl) (pa_cons (pe_glob (v := .ref (He.ga K "NotCourse")) (by rfl) B.g_NotCourse rfl) (pa_cons (pe_glob (v := .ref (He.ga K "NotEntered")) (by rfl) B.g_NotEntered rfl) (pa_cons (pe_glob (v := .ref (He.ga K "NotFinite")) (by rfl) B.g_NotFinite rfl) (pa_cons (pe_glob (v := .ref (He.ga K "NotFree")) (by rfl) B.g_NotFree rfl) (pa_cons (pe_glob (v := .ref (He.ga K "NotLet")) (by rfl) B.g_NotLet rfl) (pa_cons (pe_glob (v := .ref (He.ga K "NotStricter")) (by rfl) B.g_NotStricter rfl) (pa_cons (pe_glob (v := .ref (He.ga K "NotTimely")) (by rfl) B.g_NotTimely rfl) (pa_cons (pe_glob (v := .ref (He.ga K "NothingToUndo")) (by rfl) B.g_NothingToUndo rfl) (pa_cons (pe_glob (v := .ref (He.ga K "RowTwice")) (by rfl) B.g_RowTwice rfl) (pa_cons (pe_glob (v := .ref (He.ga K "RowsDiffer")) (by rfl) B.g_RowsDiffer rfl) (pa_cons (pe_glob (v := .ref (He.ga K "ShortStretch")) (by rfl) B.g_ShortStretch rfl) (pa_cons (pe_glob (v := .ref (He.ga K "SpotTwice")) (by rfl) B.g_SpotTwice rfl) (pa_cons (pe_glob (v := .ref (He.ga K "TooLong")) (by rfl) B.g_TooLong rfl) (pa_cons (pe_glob (v := .ref (He.ga K "UnknownRow")) (by rfl) B.g_UnknownRow rfl) (pa_cons (pe_glob (v := .ref (He.ga K "Unsure")) (by rfl) B.g_Unsure rfl) (pa_cons (pe_glob (v := .ref (He.ga K "ZeroSum")) (by rfl) B.g_ZeroSum rfl) pa_nil)))))))))))))))))))))))))))))) pa_nil)))))
def t_law_refused (K : PySem.W.Frag) (W : WX) : TS :=
  (tSeq (tAsg (tC (.int 0)) (gName 2))
    (tSeq (tTryAs K (.ref (He.ga K "ZeroPolynomial")) 3 (fun W1 => (tDrop (tCallS (SpF K Ppoly_divided.length (frpoly_divided K)) (WE W1) (tCons (tVar 0) (tCons (tVar 1) tNil))))) (fun a1 cls1 d1 => (tIfS (tAnd (tB (tCB (rIsY K a1 cls1 d1) (tCons (tVar 3) (tCons (tC (.ref (He.ga K "RowError"))) tNil)))) (tAnd (tB (tCB (rIsY K a1 cls1 d1) (tCons (tVar 3) (tCons (tC (.ty "ValueError")) tNil)))) (tNot (tB (tCallS (SpY K P_law_another.length (fr_law_another K) a1 cls1 d1) (WE W0) (tCons (tVar 3) tNil)))))) (tAsg (tOp (rAddA K) (tVar 2) (tC (.int 1))) (gName 2)) tNext)) W)
    (tSeq (tTryAs K (.ref (He.ga K "RowError")) 3 (fun W2 => (tDrop (tCallS (SpF K Ppoly_divided.length (frpoly_divided K)) (WE W2) (tCons (tVar 0) (tCons (tVar 1) tNil))))) (fun a2 cls2 d2 => (tIfS (tB (tCB (rIsY K a2 cls2 d2) (tCons (tVar 3) (tCons (tC (.ref (He.ga K "ZeroPolynomial"))) tNil)))) (tAsg (tOp (rAddA K) (tVar 2) (tC (.int 1))) (gName 2)) tNext)) W)
    (tRet (tOp (rEqD K) (tVar 2) (tC (.int 2)))))))
theorem cal_law_refused {P : Program} {w : World} {K : PySem.W.Frag} {mg : Str → Option Value} {base : Heap} (A : FunAt K mg "_law_refused" s_law_refused P_law_refused) (B : Bt K mg) (cpoly_divided : Cal P w K mg base 3 "poly_divided" Ppoly_divided (frpoly_divided K)) (c_law_another : CalX P w K mg base 1 "_law_another" P_law_another (fr_law_another K))
    (pr : ∀ W ds r, fr_law_refused ds r → FnEnd K W (t_law_refused K W) (entry N_law_refused ds) r) : Cal P w K mg base 4 "_law_refused" P_law_refused fr_law_refused := by
  have sc := sc_law_refused
  refine cal_of A sc _ fun f cdv A outer s H E hr => ⟨t_law_refused K (wD E), ?_, fun ds r h _ => pr _ ds r h⟩
  have tk : L2N.Takes (cxD P w K mg base N_law_refused "_law_refused" s_law_refused f cdv A outer s H E) (wD E) := L2N.takes_of rfl rfl rfl rfl
  have hp : PassesOwn (model P w) (cxD P w K mg base N_law_refused "_law_refused" s_law_refused f cdv A outer s H E).A (cxD P w K mg base N_law_refused "_law_refused" s_law_refused f cdv A outer s H E).env (cxD P w K mg base N_law_refused "_law_refused" s_law_refused f cdv A outer s H E).xe := passes_of rfl
  exact (pss_cons (ps_set (i := 2) sc.nd rfl (Or.inl rfl) pe_int)
    (pss_cons (ps_tryD 3 rfl rfl sc.nd rfl rfl ⟨by rfl, by decide, .inl B.g_ZeroPolynomial⟩ tk (fun W1 pn1 xe1 tk1 hp1 => (pss_one (ps_expr (pe_callD cpoly_divided (hr.mono (by decide)) (by rfl) tk1 (pa_cons (pv 0) (pa_cons (pv 1) pa_nil)))))) (fun a1 oe1 cls1 d1 pn1 hz1 hf1 => (pss_one (ps_if ((pw_and (pt_val (pe_callB (cr_isY (List.mem_cons_self) ⟨hz1.1, hz1.2.1⟩ hf1) (by rfl) B.b_isinstance (by decide +kernel) (pa_cons (pv 3) (pa_cons (pe_glob (v := .ref (He.ga K "RowError")) (by rfl) B.g_RowError rfl) pa_nil)))) (pw_and (pt_val (pe_callB (cr_isY (List.mem_cons_self) ⟨hz1.1, hz1.2.1⟩ hf1) (by rfl) B.b_isinstance (by decide +kernel) (pa_cons (pv 3) (pa_cons (pe_bltn (v := .ty "ValueError") (by rfl) B.b_ValueError (by decide +kernel) rfl) pa_nil)))) (pw_and1 (pt_not (pt_val (pe_callY c_law_another (L2H.roomH_mark (hr.mono (by decide)) _) rfl (List.mem_cons_self) hz1 hf1 (by rfl) takesN (pa_cons (pv 3) pa_nil)))))))).pt (pss_one (ps_set (i := 2) sc.nd rfl (Or.inl rfl) (pe_op opA_add (pv 2) pe_int))) pss_nil))))
    (pss_cons (ps_tryD 3 rfl rfl sc.nd rfl rfl ⟨by rfl, by decide, .inl B.g_RowError⟩ tk (fun W2 pn2 xe2 tk2 hp2 => (pss_one (ps_expr (pe_callD cpoly_divided (hr.mono (by decide)) (by rfl) tk2 (pa_cons (pv 0) (pa_cons (pv 1) pa_nil)))))) (fun a2 oe2 cls2 d2 pn2 hz2 hf2 => (pss_one (ps_if (pt_val (pe_callB (cr_isY (List.mem_cons_self) ⟨hz2.1, hz2.2.1⟩ hf2) (by rfl) B.b_isinstance (by decide +kernel) (pa_cons (pv 3) (pa_cons (pe_glob (v := .ref (He.ga K "ZeroPolynomial")) (by rfl) B.g_ZeroPolynomial rfl) pa_nil)))) (pss_one (ps_set (i := 2) sc.nd rfl (Or.inl rfl) (pe_op opA_add (pv 2) pe_int))) pss_nil))))
    (pss_one (ps_ret (pe_cmpR (op_eqD hr.units) (pv 2) pe_int (nomark _)))))))
def t_law_divided (K : PySem.W.Frag) (W : WX) : TS :=
  (tSeq (tIfS (tOr (tNot (tB (tCB (rIsi K) (tCons (tVar 0) (tCons (tC (.ty "tuple")) tNil))))) (tOr (tTest (tOp (rNeD K) (tCB (rLenA K) (tCons (tVar 0) tNil)) (tC (.int 3)))) (tOr (tNot (tB (tCallS (SpF K P_law_whole.length fr_law_whole) (WE W) (tCons (tOp (rIxA K) (tVar 0) (tC (.int 0))) tNil)))) (tTest (tOp (rI0 fun i j => .bl (decide (i < j))) (tOp (rIxA K) (tVar 0) (tC (.int 0))) (tC (.int 1))))))) (tRet (tC (.bl false))) tNext)
    (tSeq (tIfS (tOr (tNot (tB (tCallS (SpF K P_law_is_poly.length fr_law_is_poly) (WE W) (tCons (tOp (rIxA K) (tVar 0) (tC (.int 1))) tNil)))) (tNot (tB (tCallS (SpF K P_law_is_poly.length fr_law_is_poly) (WE W) (tCons (tOp (rIxA K) (tVar 0) (tC (.int 2))) tNil))))) (tRet (tC (.bl false))) tNext)
    (tSeq (tAsg (tOp (rIxA K) (tVar 0) (tC (.int 0))) (gName 3))
    (tSeq (tFor (iSeq K (tOp (rIxA K) (tVar 0) (tC (.int 1)))) (gName 4) (tAsg (tCallS (SpF K P_law_gcd.length fr_law_gcd) (WE W) (tCons (tVar 3) (tCons (tOp (rIxA K) (tVar 4) (tC (.int 1))) tNil))) (gName 3)))
    (tSeq (tFor (iSeq K (tOp (rIxA K) (tVar 0) (tC (.int 2)))) (gName 4) (tSeq (tAsg (tCallS (SpF K P_law_gcd.length fr_law_gcd) (WE W) (tCons (tVar 3) (tCons (tOp (rIxA K) (tVar 4) (tC (.int 1))) tNil))) (gName 3))
    (tIfS (tOr (tTest (tOp (rI0 fun i j => .bl (decide (i < j))) (tOp (rIxA K) (tVar 4) (tC (.int 0))) (tC (.int 0)))) (tTest (tOp (rI0 fun i j => .bl (decide (j ≤ i))) (tOp (rIxA K) (tVar 4) (tC (.int 0))) (tOp (rI0 fun i j => .int (i - j)) (tCB (rMax K) (tCons (tCB rListRd (tCons (tVar 2) tNil)) tNil)) (tCB (rMin K) (tCons (tCB rListRd (tCons (tVar 2) tNil)) tNil)))))) (tRet (tC (.bl false))) tNext)))
    (tSeq (tAsg (tCallS (SpF K P_law_mul.length fr_law_mul) (WE W) (tCons (tCallS (SpF K P_law_poly.length fr_law_poly) (WE W) (tCons (tOp (rIxA K) (tVar 0) (tC (.int 1))) tNil)) (tCons (tVar 2) tNil))) (gName 5))
    (tRet (tAndV (tOp (rEqX K) (tVar 3) (tC (.int 1))) (tOp (rEqX K) (tCallS (SpF K P_law_mul.length fr_law_mul) (WE W) (tCons (tVar 1) (tCons (tDisp [((tC (.int 0)), (tOp (rIxA K) (tVar 0) (tC (.int 0))))]) tNil))) (tCallS (SpF K P_law_add.length fr_law_add) (WE W) (tCons (tVar 5) (tCons (tCallS (SpF K P_law_poly.length fr_law_poly) (WE W) (tCons (tOp (rIxA K) (tVar 0) (tC (.int 2))) tNil)) (tCons (tC (.int 1)) tNil)))))))))))))
theorem cal_law_divided {P : Program} {w : World} {K : PySem.W.Frag} {mg : Str → Option Value} {base : Heap} (A : FunAt K mg "_law_divided" s_law_divided P_law_divided) (B : Bt K mg) (c_law_whole : Cal P w K mg base 1 "_law_whole" P_law_whole fr_law_whole) (c_law_is_poly : Cal P w K mg base 2 "_law_is_poly" P_law_is_poly fr_law_is_poly) (c_law_gcd : Cal P w K mg base 1 "_law_gcd" P_law_gcd fr_law_gcd) (c_law_mul : Cal P w K mg base 2 "_law_mul" P_law_mul fr_law_mul) (c_law_poly : Cal P w K mg base 1 "_law_poly" P_law_poly fr_law_poly) (c_law_add : Cal P w K mg base 2 "_law_add" P_law_add fr_law_add)
    (pr : ∀ W ds r, fr_law_divided ds r → FnEnd K W (t_law_divided K W) (entry N_law_divided ds) r) : Cal P w K mg base 3 "_law_divided" P_law_divided fr_law_divided := by
  have sc := sc_law_divided
  refine cal_of A sc _ fun f cdv A outer s H E hr => ⟨t_law_divided K (wD E), ?_, fun ds r h _ => pr _ ds r h⟩
  have tk : L2N.Takes (cxD P w K mg base N_law_divided "_law_divided" s_law_divided f cdv A outer s H E) (wD E) := L2N.takes_of rfl rfl rfl rfl
  have hp : PassesOwn (model P w) (cxD P w K mg base N_law_divided "_law_divided" s_law_divided f cdv A outer s H E).A (cxD P w K mg base N_law_divided "_law_divided" s_law_divided f cdv A outer s H E).env (cxD P w K mg base N_law_divided "_law_divided" s_law_divided f cdv A outer s H E).xe := passes_of rfl
  exact (pss_cons (ps_if ((pw_or (pt_not (pt_val (pe_callB call_isi (by rfl) B.b_isinstance (by decide +kernel) (pa_cons (pv 0) (pa_cons (pe_bltn (v := .ty "tuple") (by rfl) B.b_tuple (by decide +kernel) rfl) pa_nil))))) (pw_or (pt_cmpR (op_neD hr.units) (pe_callB cr_lenA (by rfl) B.b_len (by decide +kernel) (pa_cons (pv 0) pa_nil)) pe_int (nomark _)) (pw_or (pt_not (pt_val (pe_callD c_law_whole (hr.mono (by decide)) (by rfl) tk (pa_cons (pe_ix ix_any (pv 0) pe_int (fun _ _ => rfl)) pa_nil)))) (pw_or1 (pt_cmpR op_lt (pe_ix ix_any (pv 0) pe_int (fun _ _ => rfl)) pe_int (nomark _))))))).pt (pss_one (ps_ret pe_bl)) pss_nil)
    (pss_cons (ps_if ((pw_or (pt_not (pt_val (pe_callD c_law_is_poly (hr.mono (by decide)) (by rfl) tk (pa_cons (pe_ix ix_any (pv 0) pe_int (fun _ _ => rfl)) pa_nil)))) (pw_or1 (pt_not (pt_val (pe_callD c_law_is_poly (hr.mono (by decide)) (by rfl) tk (pa_cons (pe_ix ix_any (pv 0) pe_int (fun _ _ => rfl)) pa_nil))))))).pt (pss_one (ps_ret pe_bl)) pss_nil)
    (pss_cons (ps_set (i := 3) sc.nd rfl (Or.inl rfl) (pe_ix ix_any (pv 0) pe_int (fun _ _ => rfl)))
    (pss_cons (ps_for hp rfl (pi_seq (pe_ix ix_any (pv 0) pe_int (fun _ _ => rfl))) (pg_name (i := 4) sc.nd rfl (Or.inl rfl)) (pss_one (ps_set (i := 3) sc.nd rfl (Or.inl rfl) (pe_callD c_law_gcd (hr.mono (by decide)) (by rfl) tk (pa_cons (pv 3) (pa_cons (pe_ix ix_any (pv 4) pe_int (fun _ _ => rfl)) pa_nil))))))
    (pss_cons (ps_for hp rfl (pi_seq (pe_ix ix_any (pv 0) pe_int (fun _ _ => rfl))) (pg_name (i := 4) sc.nd rfl (Or.inl rfl)) (pss_cons (ps_set (i := 3) sc.nd rfl (Or.inl rfl) (pe_callD c_law_gcd (hr.mono (by decide)) (by rfl) tk (pa_cons (pv 3) (pa_cons (pe_ix ix_any (pv 4) pe_int (fun _ _ => rfl)) pa_nil))))
    (pss_one (ps_if ((pw_or (pt_cmpR op_lt (pe_ix ix_any (pv 4) pe_int (fun _ _ => rfl)) pe_int (nomark _)) (pw_or1 (pt_cmpR op_ge (pe_ix ix_any (pv 4) pe_int (fun _ _ => rfl)) (pe_op op_sub (pe_callB (cr_max rfl) (by rfl) B.b_max (by decide +kernel) (pa_cons (pe_callTy (cr_listRd rfl) (by rfl) B.b_list (by decide +kernel) (pa_cons (pv 2) pa_nil)) pa_nil)) (pe_callB (cr_min rfl) (by rfl) B.b_min (by decide +kernel) (pa_cons (pe_callTy (cr_listRd rfl) (by rfl) B.b_list (by decide +kernel) (pa_cons (pv 2) pa_nil)) pa_nil))) (nomark _))))).pt (pss_one (ps_ret pe_bl)) pss_nil))))
    (pss_cons (ps_set (i := 5) sc.nd rfl (Or.inl rfl) (pe_callD c_law_mul (hr.mono (by decide)) (by rfl) tk (pa_cons (pe_callD c_law_poly (hr.mono (by decide)) (by rfl) tk (pa_cons (pe_ix ix_any (pv 0) pe_int (fun _ _ => rfl)) pa_nil)) (pa_cons (pv 2) pa_nil))))
    (pss_one (ps_ret (pe_and (pe_cmpR (op_eqX hr.units) (pv 3) pe_int (nomark _)) (pe_one (pe_cmpR (op_eqX hr.units) (pe_callD c_law_mul (hr.mono (by decide)) (by rfl) tk (pa_cons (pv 1) (pa_cons (pe_disp (pps_cons pe_int (pe_ix ix_any (pv 0) pe_int (fun _ _ => rfl)) pps_nil) rfl rfl (by decide) (by decide)) pa_nil))) (pe_callD c_law_add (hr.mono (by decide)) (by rfl) tk (pa_cons (pv 5) (pa_cons (pe_callD c_law_poly (hr.mono (by decide)) (by rfl) tk (pa_cons (pe_ix ix_any (pv 0) pe_int (fun _ _ => rfl)) pa_nil)) (pa_cons pe_int pa_nil)))) (nomark _))))))))))))
def t_law_told (K : PySem.W.Frag) (W : WX) : TS :=
  (tSeq (tAsg (tCallS (SpF K Pdivides.length frdivides) (WE W) (tCons (tVar 1) (tCons (tVar 0) tNil))) (gName 4))
    (tSeq (tIfS (tNot (tB (tCB (rIsi K) (tCons (tVar 4) (tCons (tC (.ty "bool")) tNil))))) (tRet (tC .non)) tNext)
    (tSeq (tIfS (tTest (tOp (rEqD K) (tCB rLenD (tCons (tVar 3) tNil)) (tC (.int 0)))) (tSeq (tIfS (tAnd (tTest (tOp (rEqD K) (tVar 4) (tOp (rEqD K) (tCB rLenD (tCons (tVar 2) tNil)) (tC (.int 0))))) (tB (tCallS (SpF K P_law_refused.length fr_law_refused) (WE W) (tCons (tVar 0) (tCons (tVar 1) tNil))))) (tRet (tTup tNil)) tNext)
    (tRet (tC .non))) tNext)
    (tSeq (tAsg (tCallS (SpF K Ppoly_divided.length (frpoly_divided K)) (WE W) (tCons (tVar 0) (tCons (tVar 1) tNil))) (gName 5))
    (tSeq (tIfS (tAnd (tB (tCallS (SpF K P_law_divided.length fr_law_divided) (WE W) (tCons (tVar 5) (tCons (tVar 2) (tCons (tVar 3) tNil))))) (tTest (tOp (rEqD K) (tVar 4) (tOp (rEqD K) (tCB (rLenA K) (tCons (tOp (rIxA K) (tVar 5) (tC (.int 2))) tNil)) (tC (.int 0)))))) (tRet (tVar 5)) tNext)
    (tRet (tC .non)))))))
theorem cal_law_told {P : Program} {w : World} {K : PySem.W.Frag} {mg : Str → Option Value} {base : Heap} (A : FunAt K mg "_law_told" s_law_told P_law_told) (B : Bt K mg) (cdivides : Cal P w K mg base 3 "divides" Pdivides frdivides) (c_law_refused : Cal P w K mg base 4 "_law_refused" P_law_refused fr_law_refused) (cpoly_divided : Cal P w K mg base 3 "poly_divided" Ppoly_divided (frpoly_divided K)) (c_law_divided : Cal P w K mg base 3 "_law_divided" P_law_divided fr_law_divided)
    (pr : ∀ W ds r, fr_law_told ds r → FnEnd K W (t_law_told K W) (entry N_law_told ds) r) : Cal P w K mg base 5 "_law_told" P_law_told fr_law_told := by
  have sc := sc_law_told
  refine cal_of A sc _ fun f cdv A outer s H E hr => ⟨t_law_told K (wD E), ?_, fun ds r h _ => pr _ ds r h⟩
  have tk : L2N.Takes (cxD P w K mg base N_law_told "_law_told" s_law_told f cdv A outer s H E) (wD E) := L2N.takes_of rfl rfl rfl rfl
  have hp : PassesOwn (model P w) (cxD P w K mg base N_law_told "_law_told" s_law_told f cdv A outer s H E).A (cxD P w K mg base N_law_told "_law_told" s_law_told f cdv A outer s H E).env (cxD P w K mg base N_law_told "_law_told" s_law_told f cdv A outer s H E).xe := passes_of rfl
  exact (pss_cons (ps_set (i := 4) sc.nd rfl (Or.inl rfl) (pe_callD cdivides (hr.mono (by decide)) (by rfl) tk (pa_cons (pv 1) (pa_cons (pv 0) pa_nil))))
    (pss_cons (ps_if (pt_not (pt_val (pe_callB call_isi (by rfl) B.b_isinstance (by decide +kernel) (pa_cons (pv 4) (pa_cons (pe_bltn (v := .ty "bool") (by rfl) B.b_bool (by decide +kernel) rfl) pa_nil))))) (pss_one (ps_ret pe_non)) pss_nil)
    (pss_cons (ps_if (pt_cmpR (op_eqD hr.units) (pe_callB cr_lenD (by rfl) B.b_len (by decide +kernel) (pa_cons (pv 3) pa_nil)) pe_int (nomark _)) (pss_cons (ps_if ((pw_and (pt_cmpR (op_eqD hr.units) (pv 4) (pe_cmpR (op_eqD hr.units) (pe_callB cr_lenD (by rfl) B.b_len (by decide +kernel) (pa_cons (pv 2) pa_nil)) pe_int (nomark _)) (nomark _)) (pw_and1 (pt_val (pe_callD c_law_refused (hr.mono (by decide)) (by rfl) tk (pa_cons (pv 0) (pa_cons (pv 1) pa_nil))))))).pt (pss_one (ps_ret (pe_tup pa_nil))) pss_nil)
    (pss_one (ps_ret pe_non))) pss_nil)
    (pss_cons (ps_set (i := 5) sc.nd rfl (Or.inl rfl) (pe_callD cpoly_divided (hr.mono (by decide)) (by rfl) tk (pa_cons (pv 0) (pa_cons (pv 1) pa_nil))))
    (pss_cons (ps_if ((pw_and (pt_val (pe_callD c_law_divided (hr.mono (by decide)) (by rfl) tk (pa_cons (pv 5) (pa_cons (pv 2) (pa_cons (pv 3) pa_nil))))) (pw_and1 (pt_cmpR (op_eqD hr.units) (pv 4) (pe_cmpR (op_eqD hr.units) (pe_callB cr_lenA (by rfl) B.b_len (by decide +kernel) (pa_cons (pe_ix ix_any (pv 5) pe_int (fun _ _ => rfl)) pa_nil)) pe_int (nomark _)) (nomark _))))).pt (pss_one (ps_ret (pv 5))) pss_nil)
    (pss_one (ps_ret pe_non)))))))
def tlaw (K : PySem.W.Frag) (W : WX) : TS :=
  (tSeq (tAsg (tOp (rIxA K) (tLst (tCons (tC (.int 3)) (tCons (tC (.int 1)) (tCons (tC (.int 2)) (tCons (tC (.int 1)) (tCons (tC (.int 2)) (tCons (tC (.int 1)) (tCons (tC (.int 1)) (tCons (tC (.int 6)) tNil))))))))) (tOp (rIxA K) (tCallS (SpF K P_law_digits.length fr_law_digits) (WE W) (tCons (tCallS (SpF K P_law_cell.length fr_law_cell) (WE W) (tCons (tVar 0) (tCons (tC (.int 0)) tNil))) (tCons (tLst (tCons (tC (.int 8)) tNil)) tNil))) (tC (.int 0)))) (gName 1))
    (tSeq (tAsg (tOp (rAddA K) (tOp (rAddA K) (tOp (rAddA K) (tOp (rAddA K) (tOp (rAddA K) (tOp (rAddA K) (tOp (rAddA K) (tLst (tCons (tC (.int 14)) (tCons (tC (.int 8)) (tCons (tC (.int 17)) tNil)))) (tLst (tCons (tC (.int 5)) tNil))) (tOp rMulA (tLst (tCons (tC (.int 9)) (tCons (tC (.int 25)) tNil))) (tC (.int 5)))) (tLst (tCons (tC (.int 4)) tNil))) (tOp rMulA (tLst (tCons (tC (.int 9)) (tCons (tC (.int 25)) tNil))) (tC (.int 5)))) (tLst (tCons (tC (.int 4)) tNil))) (tOp rMulA (tLst (tCons (tC (.int 9)) (tCons (tC (.int 25)) tNil))) (tC (.int 3)))) (tLst (tCons (tC (.int 5)) (tCons (tC (.int 5)) tNil)))) (gName 2))
    (tSeq (tFor (iRng1 (tCons (tVar 1) tNil)) (gName 3) (tSeq (tAsg (tCallS (SpF K P_law_digits.length fr_law_digits) (WE W) (tCons (tCallS (SpF K P_law_cell.length fr_law_cell) (WE W) (tCons (tVar 0) (tCons (tOp (rAddA K) (tOp rMulA (tC (.int 3)) (tVar 3)) (tC (.int 3))) tNil))) (tCons (tVar 2) tNil))) (gName 4))
    (tSeq (tAsg (tCallS (SpF K P_law_two.length fr_law_two) (WE W) (tCons (tCallS (SpF K P_law_raw.length fr_law_raw) (WE W) (tCons (tVar 0) (tCons (tOp (rAddA K) (tOp rMulA (tC (.int 3)) (tVar 3)) (tC (.int 1))) tNil))) (tCons (tCallS (SpF K P_law_raw.length fr_law_raw) (WE W) (tCons (tVar 0) (tCons (tOp (rAddA K) (tOp rMulA (tC (.int 3)) (tVar 3)) (tC (.int 2))) tNil))) (tCons (tVar 4) tNil)))) (gName 5))
    (tSeq (tAsg (tCallS (SpF K P_law_passed.length fr_law_passed) (WE W) (tCons (tOp (rIxA K) (tVar 5) (tC (.int 0))) (tCons (tOp (rIxA K) (tVar 4) (tC (.int 32))) tNil))) (gName 6))
    (tSeq (tAsg (tCallS (SpF K P_law_passed.length fr_law_passed) (WE W) (tCons (tOp (rIxA K) (tVar 5) (tC (.int 1))) (tCons (tOp (rIxA K) (tVar 4) (tC (.int 33))) tNil))) (gName 7))
    (tSeq (tAsg (tCallS (SpF K P_law_poly.length fr_law_poly) (WE W) (tCons (tOp (rIxA K) (tVar 5) (tC (.int 0))) tNil)) (gName 8))
    (tSeq (tAsg (tCallS (SpF K P_law_poly.length fr_law_poly) (WE W) (tCons (tOp (rIxA K) (tVar 5) (tC (.int 1))) tNil)) (gName 9))
    (tSeq (tAsg (tCallS (SpF K P_law_told.length fr_law_told) (WE W) (tCons (tVar 6) (tCons (tVar 7) (tCons (tVar 8) (tCons (tVar 9) tNil))))) (gName 10))
    (tSeq (tIfS (tOr (tTest (tOp rIsN (tVar 10) (tC .non))) (tTest (tOp rIsN (tCallS (SpF K P_law_told.length fr_law_told) (WE W) (tCons (tVar 7) (tCons (tVar 6) (tCons (tVar 9) (tCons (tVar 8) tNil))))) (tC .non)))) (tRet (tC (.bl false))) tNext)
    (tSeq (tIfS (tTest (tOp (rI0 fun i j => .bl (decide (j < i))) (tCB rLenD (tCons (tVar 9) tNil)) (tC (.int 0)))) (tSeq (tAsg (tCallS (SpF K P_law_poly.length fr_law_poly) (WE W) (tCons (tOp (rIxA K) (tVar 10) (tC (.int 1))) tNil)) (gName 11))
    (tSeq (tAsg (tCallS (SpF K P_law_poly.length fr_law_poly) (WE W) (tCons (tOp (rIxA K) (tVar 10) (tC (.int 2))) tNil)) (gName 12))
    (tSeq (tIfS (tOr (tTest (tOp rIsN (tCallS (SpF K P_law_told.length fr_law_told) (WE W) (tCons (tVar 7) (tCons (tOp (rIxA K) (tVar 10) (tC (.int 2))) (tCons (tVar 9) (tCons (tVar 12) tNil))))) (tC .non))) (tTest (tOp rIsN (tCallS (SpF K P_law_told.length fr_law_told) (WE W) (tCons (tOp (rIxA K) (tVar 10) (tC (.int 2))) (tCons (tVar 7) (tCons (tVar 12) (tCons (tVar 9) tNil))))) (tC .non)))) (tRet (tC (.bl false))) tNext)
    (tIfS (tTest (tOp rIsN (tCallS (SpF K P_law_told.length fr_law_told) (WE W) (tCons (tOp (rIxA K) (tVar 10) (tC (.int 1))) (tCons (tVar 7) (tCons (tVar 11) (tCons (tVar 9) tNil))))) (tC .non))) (tRet (tC (.bl false))) tNext)))) tNext)
    (tIfS (tOr (tTest (tOp (rNeD K) (tVar 6) (tCallS (SpF K P_law_passed.length fr_law_passed) (WE W) (tCons (tOp (rIxA K) (tVar 5) (tC (.int 0))) (tCons (tOp (rIxA K) (tVar 4) (tC (.int 32))) tNil))))) (tTest (tOp (rNeD K) (tVar 7) (tCallS (SpF K P_law_passed.length fr_law_passed) (WE W) (tCons (tOp (rIxA K) (tVar 5) (tC (.int 1))) (tCons (tOp (rIxA K) (tVar 4) (tC (.int 33))) tNil)))))) (tRet (tC (.bl false))) tNext)))))))))))
    (tRet (tC (.bl true))))))
theorem fnlaw {f : Addr} {fd : FuncData} {P : Program} {w : World} {K : PySem.W.Frag} {mg : Str → Option Value} {base : Heap} (F : Fun K "law" "law" slaw f fd) (B : Bt K mg) (c_law_digits : Cal P w K mg base 1 "_law_digits" P_law_digits fr_law_digits) (c_law_cell : Cal P w K mg base 1 "_law_cell" P_law_cell fr_law_cell) (c_law_two : Cal P w K mg base 3 "_law_two" P_law_two fr_law_two) (c_law_raw : Cal P w K mg base 3 "_law_raw" P_law_raw fr_law_raw) (c_law_passed : Cal P w K mg base 1 "_law_passed" P_law_passed fr_law_passed) (c_law_poly : Cal P w K mg base 1 "_law_poly" P_law_poly fr_law_poly) (c_law_told : Cal P w K mg base 5 "_law_told" P_law_told fr_law_told)
    (pr : ∀ W ds r, frlaw ds r → FnEnd K W (tlaw K W) (entry Nlaw ds) r) : FnOk P w K mg base (L2N.CX P w) 6 f fd Plaw (SpF K Plaw.length frlaw) := by
  have sc := sclaw
  refine fnD F sc _ fun cdv A outer s H E hr => ⟨tlaw K (wD E), ?_, fun ds r h _ => pr _ ds r h⟩
  have tk : L2N.Takes (cxD P w K mg base Nlaw "law" slaw f cdv A outer s H E) (wD E) := L2N.takes_of rfl rfl rfl rfl
  have hp : PassesOwn (model P w) (cxD P w K mg base Nlaw "law" slaw f cdv A outer s H E).A (cxD P w K mg base Nlaw "law" slaw f cdv A outer s H E).env (cxD P w K mg base Nlaw "law" slaw f cdv A outer s H E).xe := passes_of rfl
  exact (pss_cons (ps_set (i := 1) sc.nd rfl (Or.inl rfl) (pe_ix ix_any (pe_lst (pa_cons pe_int (pa_cons pe_int (pa_cons pe_int (pa_cons pe_int (pa_cons pe_int (pa_cons pe_int (pa_cons pe_int (pa_cons pe_int pa_nil))))))))) (pe_ix ix_any (pe_callD c_law_digits (hr.mono (by decide)) (by rfl) tk (pa_cons (pe_callD c_law_cell (hr.mono (by decide)) (by rfl) tk (pa_cons (pv 0) (pa_cons pe_int pa_nil))) (pa_cons (pe_lst (pa_cons pe_int pa_nil)) pa_nil))) pe_int (fun _ _ => rfl)) (fun _ _ => rfl)))
    (pss_cons (ps_set (i := 2) sc.nd rfl (Or.inl rfl) (pe_op opA_add (pe_op opA_add (pe_op opA_add (pe_op opA_add (pe_op opA_add (pe_op opA_add (pe_op opA_add (pe_lst (pa_cons pe_int (pa_cons pe_int (pa_cons pe_int pa_nil)))) (pe_lst (pa_cons pe_int pa_nil))) (pe_op opA_mul (pe_lst (pa_cons pe_int (pa_cons pe_int pa_nil))) pe_int)) (pe_lst (pa_cons pe_int pa_nil))) (pe_op opA_mul (pe_lst (pa_cons pe_int (pa_cons pe_int pa_nil))) pe_int)) (pe_lst (pa_cons pe_int pa_nil))) (pe_op opA_mul (pe_lst (pa_cons pe_int (pa_cons pe_int pa_nil))) pe_int)) (pe_lst (pa_cons pe_int (pa_cons pe_int pa_nil)))))
    (pss_cons (ps_for hp rfl (pi_range1 (by rfl) B.b_range (pa_cons (pv 1) pa_nil)) (pg_name (i := 3) sc.nd rfl (Or.inl rfl)) (pss_cons (ps_set (i := 4) sc.nd rfl (Or.inl rfl) (pe_callD c_law_digits (hr.mono (by decide)) (by rfl) tk (pa_cons (pe_callD c_law_cell (hr.mono (by decide)) (by rfl) tk (pa_cons (pv 0) (pa_cons (pe_op opA_add (pe_op opA_mul pe_int (pv 3)) pe_int) pa_nil))) (pa_cons (pv 2) pa_nil))))
    (pss_cons (ps_set (i := 5) sc.nd rfl (Or.inl rfl) (pe_callD c_law_two (hr.mono (by decide)) (by rfl) tk (pa_cons (pe_callD c_law_raw (hr.mono (by decide)) (by rfl) tk (pa_cons (pv 0) (pa_cons (pe_op opA_add (pe_op opA_mul pe_int (pv 3)) pe_int) pa_nil))) (pa_cons (pe_callD c_law_raw (hr.mono (by decide)) (by rfl) tk (pa_cons (pv 0) (pa_cons (pe_op opA_add (pe_op opA_mul pe_int (pv 3)) pe_int) pa_nil))) (pa_cons (pv 4) pa_nil)))))
    (pss_cons (ps_set (i := 6) sc.nd rfl (Or.inl rfl) (pe_callD c_law_passed (hr.mono (by decide)) (by rfl) tk (pa_cons (pe_ix ix_any (pv 5) pe_int (fun _ _ => rfl)) (pa_cons (pe_ix ix_any (pv 4) pe_int (fun _ _ => rfl)) pa_nil))))
    (pss_cons (ps_set (i := 7) sc.nd rfl (Or.inl rfl) (pe_callD c_law_passed (hr.mono (by decide)) (by rfl) tk (pa_cons (pe_ix ix_any (pv 5) pe_int (fun _ _ => rfl)) (pa_cons (pe_ix ix_any (pv 4) pe_int (fun _ _ => rfl)) pa_nil))))
    (pss_cons (ps_set (i := 8) sc.nd rfl (Or.inl rfl) (pe_callD c_law_poly (hr.mono (by decide)) (by rfl) tk (pa_cons (pe_ix ix_any (pv 5) pe_int (fun _ _ => rfl)) pa_nil)))
    (pss_cons (ps_set (i := 9) sc.nd rfl (Or.inl rfl) (pe_callD c_law_poly (hr.mono (by decide)) (by rfl) tk (pa_cons (pe_ix ix_any (pv 5) pe_int (fun _ _ => rfl)) pa_nil)))
    (pss_cons (ps_set (i := 10) sc.nd rfl (Or.inl rfl) (pe_callD c_law_told (hr.mono (by decide)) (by rfl) tk (pa_cons (pv 6) (pa_cons (pv 7) (pa_cons (pv 8) (pa_cons (pv 9) pa_nil))))))
    (pss_cons (ps_if ((pw_or (pt_cmpR op_isN1 (pv 10) pe_non (nomark _)) (pw_or1 (pt_cmpR op_isN1 (pe_callD c_law_told (hr.mono (by decide)) (by rfl) tk (pa_cons (pv 7) (pa_cons (pv 6) (pa_cons (pv 9) (pa_cons (pv 8) pa_nil))))) pe_non (nomark _))))).pt (pss_one (ps_ret pe_bl)) pss_nil)
    (pss_cons (ps_if (pt_cmpR op_gt (pe_callB cr_lenD (by rfl) B.b_len (by decide +kernel) (pa_cons (pv 9) pa_nil)) pe_int (nomark _)) (pss_cons (ps_set (i := 11) sc.nd rfl (Or.inl rfl) (pe_callD c_law_poly (hr.mono (by decide)) (by rfl) tk (pa_cons (pe_ix ix_any (pv 10) pe_int (fun _ _ => rfl)) pa_nil)))
    (pss_cons (ps_set (i := 12) sc.nd rfl (Or.inl rfl) (pe_callD c_law_poly (hr.mono (by decide)) (by rfl) tk (pa_cons (pe_ix ix_any (pv 10) pe_int (fun _ _ => rfl)) pa_nil)))
    (pss_cons (ps_if ((pw_or (pt_cmpR op_isN1 (pe_callD c_law_told (hr.mono (by decide)) (by rfl) tk (pa_cons (pv 7) (pa_cons (pe_ix ix_any (pv 10) pe_int (fun _ _ => rfl)) (pa_cons (pv 9) (pa_cons (pv 12) pa_nil))))) pe_non (nomark _)) (pw_or1 (pt_cmpR op_isN1 (pe_callD c_law_told (hr.mono (by decide)) (by rfl) tk (pa_cons (pe_ix ix_any (pv 10) pe_int (fun _ _ => rfl)) (pa_cons (pv 7) (pa_cons (pv 12) (pa_cons (pv 9) pa_nil))))) pe_non (nomark _))))).pt (pss_one (ps_ret pe_bl)) pss_nil)
    (pss_one (ps_if (pt_cmpR op_isN1 (pe_callD c_law_told (hr.mono (by decide)) (by rfl) tk (pa_cons (pe_ix ix_any (pv 10) pe_int (fun _ _ => rfl)) (pa_cons (pv 7) (pa_cons (pv 11) (pa_cons (pv 9) pa_nil))))) pe_non (nomark _)) (pss_one (ps_ret pe_bl)) pss_nil))))) pss_nil)
    (pss_one (ps_if ((pw_or (pt_cmpR (op_neD hr.units) (pv 6) (pe_callD c_law_passed (hr.mono (by decide)) (by rfl) tk (pa_cons (pe_ix ix_any (pv 5) pe_int (fun _ _ => rfl)) (pa_cons (pe_ix ix_any (pv 4) pe_int (fun _ _ => rfl)) pa_nil))) (nomark _)) (pw_or1 (pt_cmpR (op_neD hr.units) (pv 7) (pe_callD c_law_passed (hr.mono (by decide)) (by rfl) tk (pa_cons (pe_ix ix_any (pv 5) pe_int (fun _ _ => rfl)) (pa_cons (pe_ix ix_any (pv 4) pe_int (fun _ _ => rfl)) pa_nil))) (nomark _))))).pt (pss_one (ps_ret pe_bl)) pss_nil))))))))))))
    (pss_one (ps_ret pe_bl)))))
end Go
set_option Elab.async false
set_option linter.all false
set_option maxRecDepth 100000
set_option maxHeartbeats 1000000
namespace Go
open PySem PySem.Spec PyProof.Rows L2 DL
theorem pr_law_whole {K : PySem.W.Frag} (W : WX) (ds : List D) (r : Res) (h : fr_law_whole ds r) : FnEnd K W (t_law_whole K W) (entry N_law_whole ds) r := by
  obtain ⟨d, hd, rfl, rfl⟩ := h
  left
  have h1 : EvD K (tVar 0) (entry N_law_whole [d]) d := ev_var rfl
  refine sv_retE (ev_andV (ev_isi h1 hd (kit_int hd)) fun _ => ev_notV (ev_isi h1 hd (kit_bool hd))) ?_
  cases d <;> rfl
theorem pr_law_cell {K : PySem.W.Frag} (W : WX) (ds : List D) (r : Res) (h : fr_law_cell ds r) : FnEnd K W (t_law_cell K W) (entry N_law_cell ds) r := by
  obtain ⟨ns, k, hk, rfl, rfl⟩ := h
  left
  show SvD K W (t_law_cell K W) [.d (.scr ns), .d (.int (k : Int)), .no, .no] _
  have h0 : EvSL K (tVar 0) [.d (.scr ns), .d (.int (k : Int)), .no, .no] (ns.map D.int) := sl_scr (ev_var rfl)
  have hc : ∀ b, decide ((k : Int) < ((ns.map D.int).length : Int)) = b → TvD K (tTest (tOp (rI0 fun i j => .bl (decide (i < j))) (tVar 1) (tCB (rLenA K) (tCons (tVar 0) tNil)))) [.d (.scr ns), .d (.int (k : Int)), .no, .no] b := fun b e =>
    tv_eq (tv_cmpI (g := fun i j => decide (i < j)) (ev_var rfl) (ev_lenL h0)) e
  unfold t_law_cell
  rw [List.length_map] at hc
  by_cases hlt : k < ns.length
  · refine sv_stop (sv_ifT (hc true (decide_eq_true (by omega))) (sv_ret ?_))
    have e1 : ns[k]? = some ns[k] := List.getElem?_eq_getElem hlt
    have e2 : cellM ns k = ns[k] := by unfold cellM; rw [e1]
    rw [e2]
    refine ev_ixL (i := (k : Int)) h0 (ev_var rfl) (atI_nat ?_)
    rw [List.getElem?_map, e1]; rfl
  · refine sv_seq (sv_ifF (hc false (decide_eq_false (by omega))) sv_next) ?_
    refine sv_seq (sv_asg ev_int) ?_
    have e1 : ns[k]? = none := List.getElem?_eq_none (by omega)
    have e2 : cellM ns k = (seedM ns + 7) * ((k : Int) + 3) * 69621 % 2147483647 := by unfold cellM; rw [e1]
    have loop := run_fold (step := Turn1 K W (gName 3) (tAsg (tOp (rI (fun _ j => 0 < j) fun i j => .int (i % j)) (tCB rIntC (tCons (tOp (rAddA K) (tOp rMulA (tVar 2) (tC (.int 31))) (tOp (rI (fun _ j => 0 < j) fun i j => .int (i % j)) (tCB rIntC (tCons (tVar 3) tNil)) (tC (.int 1000003)))) tNil)) (tC (.int 1000003))) (gName 2)))
      (fun s : Int => [.d (.scr ns), .d (.int (k : Int)), .d (.int s), .no]) (fun s d => match d with | .int c => (s * 31 + c % 1000003) % 1000003 | _ => s) (fun s => 0 ≤ s ∧ s < 1000003) (ns.map D.int) 17 (fun s d hd hs => by
        obtain ⟨c, _, rfl⟩ := List.mem_map.mp hd
        refine ⟨t1_name (sv_nx (sv_asg (ev_modI (ev_intC (ev_addI (ev_mulI (ev_var rfl) ev_int (mul_s (by omega) (by omega))) (ev_modI (ev_intC (ev_var rfl)) ev_int (by decide)))) ev_int (by decide))) [3] rfl), ?_⟩
        show 0 ≤ (s * 31 + c % 1000003) % 1000003 ∧ _
        constructor
        · exact Int.emod_nonneg _ (by decide)
        · exact Int.emod_lt_of_pos _ (by decide)) (by omega)
    have fold : ∀ (l : List Int) (s : Int), (l.map D.int).foldl (fun s d => match d with | .int c => (s * 31 + c % 1000003) % 1000003 | _ => s) s = l.foldl (fun s c => (s * 31 + c % 1000003) % 1000003) s := by
      intro l
      induction l with
      | nil => intro s; rfl
      | cons c l ih => intro s; exact ih _
    rw [fold] at loop
    refine sv_seq (sv_for (wi_seqL (wi_scr (ev_var rfl))) loop) ?_
    have b := seed_bound ns
    refine sv_retE (ev_modI (ev_intC (ev_mulI (ev_mulI (ev_addI (ev_var rfl) ev_int) (ev_addI (ev_var rfl) ev_int) (mul_s ?_ ?_)) ev_int ?_)) ev_int (by decide)) ?_
    · show _ < seedM ns + 7 ∧ seedM ns + 7 < _; omega
    · omega
    · refine mul_ok 90 64 ?_ (by decide) (by decide)
      have h1 : (seedM ns + 7).natAbs < 2 ^ 40 := by omega
      have h2 : ((k : Int) + 3).natAbs < 2 ^ 40 := by omega
      have h3 := wide_lt h1 h2
      exact Nat.lt_trans h3 (by decide)
    · rw [e2]; rfl
/-! ### digits -/
def encA (c : Int) (ss done : List Int) (rest : Int) : List Sl := [.d (.int c), .d (.lst (ss.map D.int)), .ol (done.map D.int), .d (.int rest), .no, .no, .no, .no]
abbrev tbA (K : PySem.W.Frag) : TS := (tSeq (tDrop (tBM K "list" rAppend (tVar 2) (tCons (tOp (rI (fun _ j => 0 < j) fun i j => .int (i % j)) (tCB rIntC (tCons (tVar 3) tNil)) (tVar 4)) tNil)))
    (tAsg (tOp rDivA (tCB rIntC (tCons (tVar 3) tNil)) (tVar 4)) (gName 3)))
theorem run_digA {K : PySem.W.Frag} {W : WX} (c : Int) (ss : List Int) : ∀ (rs done : List Int) (rest : Int), (∀ s ∈ rs, 0 < s ∧ s < 1073741824) → done.length + rs.length ≤ 5000 →
    Run (Turn1 K W (gName 4) (tbA K)) (rs.map D.int) (encA c ss done rest) (.nx (encA c ss (done ++ digA rest rs) (rs.foldl (· / ·) rest)))
  | [], done, rest, _, _ => by
    have e : done ++ digA rest [] = done := by simp [digA]
    rw [e]; exact .nil
  | s :: rs, done, rest, h, hl => by
    have hs := h s List.mem_cons_self
    have ih := run_digA (K := K) (W := W) c ss rs (done ++ [rest % s]) (rest / s) (fun x hx => h x (List.mem_cons_of_mem _ hx)) (by simp at hl ⊢; omega)
    have e : done ++ digA rest (s :: rs) = done ++ [rest % s] ++ digA (rest / s) rs := by simp [digA]
    rw [e, List.foldl_cons, List.map_cons]
    refine .go (t1_name (sv_nx (sv_seq (sv_app (xs := done.map D.int) rfl (ev_modI (ev_intC (ev_var rfl)) (ev_var rfl) hs.1) ?_) (sv_asg (ev_divI (ev_intC (ev_var rfl)) (ev_var rfl) hs))) [4] ?_)) ih
    · rw [List.length_map]; simp at hl; omega
    · simp [wipeS, encA]
abbrev tbB (K : PySem.W.Frag) : TS := (tSeq (tAsg (tOp (rI (fun _ j => 0 < j) fun i j => .int (i % j)) (tCB rIntC (tCons (tOp (rAddA K) (tOp (rAddA K) (tOp rMulA (tVar 5) (tC (.int 48271))) (tOp rMulA (tC (.int 974711)) (tVar 6))) (tC (.int 12345))) tNil)) (tC (.int 2147483647))) (gName 5))
    (tSeq (tAsg (tOp (rI (fun _ j => 0 < j) fun i j => .int (i % j)) (tCB rIntC (tCons (tOp rMulA (tVar 5) (tOp (rAddA K) (tOp rDivA (tVar 5) (tC (.int 65537))) (tC (.int 3)))) tNil)) (tC (.int 2147483629))) (gName 7))
    (tDrop (tBM K "list" rAppend (tVar 2) (tCons (tOp (rI (fun _ j => 0 < j) fun i j => .int (i % j)) (tOp rDivA (tVar 7) (tC (.int 19))) (tOp (rIxA K) (tVar 1) (tVar 6))) tNil)))))
def encB (c : Int) (ss : List Int) (rest seed : Int) (full : List Int) (k : Nat) : List Sl := [.d (.int c), .d (.lst (ss.map D.int)), .ol ((full.take k).map D.int), .d (.int rest), .no, .d (.int (seedIt seed 0 k)), .no, .no]
theorem pr_law_digits {K : PySem.W.Frag} (W : WX) (ds : List D) (r : Res) (h : fr_law_digits ds r) : FnEnd K W (t_law_digits K W) (entry N_law_digits ds) r := by
  obtain ⟨c, ss, hs, hl, rfl, rfl⟩ := h
  left
  show SvD K W (t_law_digits K W) [.d (.int c), .d (.lst (ss.map D.int)), .no, .no, .no, .no, .no, .no] _
  unfold t_law_digits
  refine sv_seq (sv_asgL (evl_lst (K := K) av_nil (by decide))) (sv_seq (sv_asg (ev_intC (ev_var rfl))) ?_)
  have big : (10 : Int) ^ (18 : Int).toNat = 1000000000000000000 := by decide
  have hc : ∀ b, decide ((1000000000000000000 : Int) ≤ c) = b → TvD K (tTest (tOp (rI0 fun i j => .bl (decide (j ≤ i))) (tVar 3) (tOp (rI CPow fun i j => .int (i ^ j.toNat)) (tC (.int 10)) (tC (.int 18))))) [.d (.int c), .d (.lst (ss.map D.int)), .ol [], .d (.int c), .no, .no, .no, .no] b := fun b e =>
    tv_eq (tv_cmpI (g := fun i j => decide (j ≤ i)) (ev_var rfl) (ev_eq (ev_powI ev_int ev_int ⟨by decide, by decide, by decide⟩) (by rw [big]))) e
  by_cases hb : (1000000000000000000 : Int) ≤ c
  · refine sv_stop (sv_ifT (hc true (decide_eq_true hb)) ?_)
    have e1 : digM c ss = digA (c - 1000000000000000000) ss := by unfold digM; rw [if_pos hb]
    refine sv_seq (sv_asg (ev_eq (ev_subI (ev_var rfl) (ev_powI ev_int ev_int ⟨by decide, by decide, by decide⟩)) (by rw [big]))) ?_
    refine sv_seq (sv_for (wi_seqL (wi_list (ev_var rfl))) (run_digA (K := K) (W := W) c ss ss [] (c - 1000000000000000000) hs (by simp; omega))) ?_
    refine sv_frz 2 rfl rfl (sv_retE (ev_var rfl) ?_)
    rw [e1]; rfl
  · refine sv_seq (sv_ifF (hc false (decide_eq_false hb)) sv_next) ?_
    have e1 : digM c ss = digB (c % 2147483629) 0 ss := by unfold digM; rw [if_neg hb]
    refine sv_seq (sv_asg (ev_modI (ev_intC (ev_var rfl)) ev_int (by decide))) ?_
    have b0 : 0 ≤ c % 2147483629 ∧ c % 2147483629 < 2147483647 := by omega
    generalize c % 2147483629 = seed at b0 e1
    have hn : (rngD 0 ((ss.map D.int).length : Int).toNat).length = ss.length := by rw [rngD_length]; simp
    have run := run_all (step := Turn1 K W (gName 6) (tbB K)) (encB c ss c seed (digB seed 0 ss)) (rngD 0 ((ss.map D.int).length : Int).toNat) fun k d hd => by
      have hk : k < ss.length := by rw [← hn]; exact (List.getElem?_eq_some_iff.mp hd).1
      have e2 := rngD_get hd
      rw [Int.zero_add] at e2
      subst e2
      have bs := seedIt_bound b0 0 k
      have bn := nextS_bound (seedIt seed 0 k) k
      have es : ss[k]? = some ss[k] := List.getElem?_eq_getElem hk
      have hp := hs ss[k] (List.getElem_mem hk)
      have ef := digB_get ss seed 0 k
      rw [es] at ef
      have ei : seedIt seed 0 (k + 1) = nextS (seedIt seed 0 k) k := by show nextS _ (0 + k) = _; rw [Nat.zero_add]
      refine t1_name (sv_nx (sv_seq (sv_asg (ev_modI (ev_intC (ev_addI (ev_addI (ev_mulI (ev_var rfl) ev_int (mul_s (by omega) (by omega))) (ev_mulI ev_int (ev_var rfl) (mul_s (by omega) (by omega)))) ev_int)) ev_int (by decide))) (sv_seq (sv_asg (ev_modI (ev_intC (ev_mulI (ev_var rfl) (ev_addI (ev_divI (ev_var rfl) ev_int ⟨by decide, by decide⟩) ev_int) ?_)) ev_int (by decide))) (sv_app (xs := ((digB seed 0 ss).take k).map D.int) rfl (ev_modI (ev_divI (ev_var rfl) ev_int ⟨by decide, by decide⟩) (ev_ixL (i := (k : Int)) (d := .int ss[k]) (sl_d (ev_var rfl)) (ev_var rfl) (atI_nat (by rw [List.getElem?_map, es]; rfl))) hp.1) ?_))) [6, 7] ?_)
      · have bn' : 0 ≤ (seedIt seed 0 k * 48271 + 974711 * (k : Int) + 12345) % 2147483647 ∧ (seedIt seed 0 k * 48271 + 974711 * (k : Int) + 12345) % 2147483647 < 2147483647 := bn
        exact mul_s (by omega) (by omega)
      · rw [List.length_map, List.length_take]; omega
      · have et : (digB seed 0 ss).take (k + 1) = (digB seed 0 ss).take k ++ [drawS (nextS (seedIt seed 0 k) k) / 19 % ss[k]] := by
          rw [List.take_add_one, ef, ei]; rfl
        unfold encB
        rw [et, ei, List.map_append]; rfl
    have h0 : encB c ss c seed (digB seed 0 ss) 0 = [.d (.int c), .d (.lst (ss.map D.int)), .ol [], .d (.int c), .no, .d (.int seed), .no, .no] := rfl
    rw [h0, hn] at run
    refine sv_seq (sv_for (wi_rng1 (av_cons (ev_lenL (sl_d (ev_var rfl))) av_nil) (by omega) (by rw [List.length_map]; omega)) run) ?_
    refine sv_frz 2 rfl rfl (sv_retE (ev_var rfl) ?_)
    have ee : (digB seed 0 ss).take ss.length = digB seed 0 ss := by rw [← digB_len seed 0 ss, List.take_length]
    show D.lst (((digB seed 0 ss).take ss.length).map D.int) = _
    rw [ee, e1]
end Go
set_option Elab.async false
set_option linter.all false
set_option maxRecDepth 100000
set_option maxHeartbeats 1000000
namespace Go
open PySem PySem.Spec PyProof.Rows L2 DL
theorem kk_inj {a b : Kk} (h : kk a = kk b) : a = b := by
  unfold kk at h
  injection h with h1 h2
  injection h2 with h2 _
  injection h1 with h1
  injection h2 with h2
  exact Prod.ext h1 h2
def encT (a : List (Kk × Int)) : List (List Key × D) := a.map fun p => (kk p.1, .int p.2)
theorem gget_enc (k : Kk) : ∀ a : List (Kk × Int), gget (encT a) (kk k) = (gget a k).map D.int
  | [] => rfl
  | p :: r => by
    have ih := gget_enc k r
    show gget ((kk p.1, D.int p.2) :: encT r) (kk k) = _
    unfold gget
    by_cases e : p.1 = k
    · rw [if_pos (by rw [e]), if_pos e]; rfl
    · rw [if_neg fun z => e (kk_inj z), if_neg e, ih]
theorem gput_enc (k : Kk) (v : Int) : ∀ a : List (Kk × Int), gput (encT a) (kk k) (.int v) = encT (gput a k v)
  | [] => rfl
  | p :: r => by
    have ih := gput_enc k v r
    show gput ((kk p.1, D.int p.2) :: encT r) (kk k) (.int v) = _
    unfold gput
    by_cases e : p.1 = k
    · rw [if_pos (by rw [e]), if_pos e]; rfl
    · rw [if_neg fun z => e (kk_inj z), if_neg e, ih]; rfl
theorem get2_enc (k : Kk) (a : List (Kk × Int)) : (gget (encT a) (kk k)).getD (.int 0) = D.int ((gget a k).getD 0) := by
  rw [gget_enc]; cases gget a k <;> rfl
def tupK (k : Kk) : D := .tup [.str k.1, .int k.2]
theorem tupK_kD (k : Kk) : D.tup ((kk k).map kD) = tupK k := rfl
theorem enc_keys (a : List (Kk × Int)) : ((encT a).map fun kv => D.tup (kv.1.map kD)) = (a.map (·.1)).map tupK := by
  unfold encT; rw [List.map_map, List.map_map]; rfl
theorem sortD_keys (l : List Kk) : sortD (l.map tupK) = (sortK l).map tupK := by
  unfold sortD sortK
  rw [List.map_mergeSort (s := PySem.W.dataLe false D.py)]
  intro a _ b _; rfl
theorem sortOk_keys {l : List Kk} (h : l.length ≤ 16777216) : SortOk (l.map pyK) where
  al := fun d hd e he => by
    obtain ⟨a, _, rfl⟩ := List.mem_map.mp hd
    obtain ⟨b, _, rfl⟩ := List.mem_map.mp he
    rfl
  so := .inl fun d hd => by
    obtain ⟨a, _, rfl⟩ := List.mem_map.mp hd
    exact ⟨_, _, rfl⟩
  dp := fun d hd => by
    obtain ⟨a, _, rfl⟩ := List.mem_map.mp hd
    exact (by decide : (PyData.tuple [.str "", .int 0]).depth ≤ 8)
  sz := by rw [List.length_map]; exact h
theorem enc_pyK (a : List (Kk × Int)) : ((encT a).map fun kv => PyData.tuple (kv.1.map keyPy)) = (a.map (·.1)).map pyK := by
  unfold encT; rw [List.map_map, List.map_map]; rfl
theorem gput_len_lt {a : List (Kk × Int)} {n : Nat} (h : a.length < n) : (encT a).length < n := by unfold encT; rw [List.length_map]; exact h
section
variable {K : PySem.W.Frag} {W : WX}
def encO (d0 : D) (a : List (Kk × Int)) : List Sl := [.d d0, .ot (encT a), .no, .no, .no, .no]
abbrev gO (K : PySem.W.Frag) : TG := gSeqA K 3 (gCons (gName 2) (gCons (gName 3) (gCons (gName 4) gNil)))
abbrev tbO (K : PySem.W.Frag) : TS := sDPut (tVar 1) (tTup (tCons (tVar 2) (tCons (tVar 3) tNil))) (tOp (rAddA K) (tDGet2 (tVar 1) (tTup (tCons (tVar 2) (tCons (tVar 3) tNil))) (tC (.int 0))) (tVar 4))
theorem body_ordered (d0 : D) (a : List (Kk × Int)) (t : Tm) (hl : a.length < 16777216) : SvD K W (tbO K) [.d d0, .ot (encT a), .d (.str t.1), .d (.int t.2.1), .d (.int t.2.2), .no] (.nx (encO d0 (stepM a t))) := by
  have hk : EvD K (tTup (tCons (tVar 2) (tCons (tVar 3) tNil))) [.d d0, .ot (encT a), .d (.str t.1), .d (.int t.2.1), .d (.int t.2.2), .no] (.tup ((kk (Tm.k t)).map kD)) := ev_tup (av_cons (ev_var rfl) (av_cons (ev_var rfl) av_nil)) le2
  refine sv_nx (sv_putT (k := kk (Tm.k t)) (d := .int ((gget a (Tm.k t)).getD 0 + t.2.2)) rfl (ev_addI (ev_eq (ev_get2T (dt_own rfl) hk ev_int) (get2_enc _ _)) (ev_var rfl)) hk (gput_len_lt hl)) [2, 3, 4] ?_
  rw [gput_enc]; rfl
theorem run_ordered (d0 : D) : ∀ {ds : List D} {ts : List Tm}, IsTms ds ts → ∀ a : List (Kk × Int), a.length + ts.length ≤ 4000000 → Run (Turn1 K W (gO K) (tbO K)) ds (encO d0 a) (.nx (encO d0 (accM a ts)))
  | _, _, .nil, a, _ => .nil
  | _, _, .lst (t := t) (ts := ts) h, a, hl => by
    have hs : (stepM a t).length ≤ a.length + 1 := gput_length _ _ a
    rw [List.length_cons] at hl
    exact .go ⟨_, _, tg_seqL (tgs_cons tg_name (tgs_cons tg_name (tgs_cons tg_name tgs_nil))) rfl, body_ordered d0 a t (by omega)⟩ (run_ordered d0 h (stepM a t) (by omega))
  | _, _, .tup (t := t) (ts := ts) h, a, hl => by
    have hs : (stepM a t).length ≤ a.length + 1 := gput_length _ _ a
    rw [List.length_cons] at hl
    exact .go ⟨_, _, tg_seqT (tgs_cons tg_name (tgs_cons tg_name (tgs_cons tg_name tgs_nil))) rfl, body_ordered d0 a t (by omega)⟩ (run_ordered d0 h (stepM a t) (by omega))
/-- what a loop over terms goes over -/
theorem wi_terms {te : TE} {ρ : List Sl} {d : D} {ds : List D} (h : EvD K te ρ d) (hd : d = .lst ds ∨ d = .tup ds ∨ d = .tupZ ds) : WiD K (iSeq K te) ρ ds := by
  rcases hd with rfl | rfl | rfl
  · exact wi_seqL (wi_list h)
  · exact wi_seqT (wi_tup h)
  · exact wi_seqT (wi_tupZ h)
theorem st_po {te : TE} {ρ : List Sl} {d : D} {P : List Pr} (hd : IsPoly d P) (h : EvD K te ρ d) : EvST K te ρ (P.map pT) := by
  rcases hd with rfl | rfl
  · exact st_d h
  · exact st_dZ h
theorem wi_po {te : TE} {ρ : List Sl} {d : D} {P : List Pr} (hd : IsPoly d P) (h : EvD K te ρ d) : WiD K (iSeq K te) ρ (P.map pT) := by
  rcases hd with rfl | rfl
  · exact wi_seqT (wi_tup h)
  · exact wi_seqT (wi_tupZ h)
theorem tru_po {te : TE} {ρ : List Sl} {d : D} {P : List Pr} (hd : IsPoly d P) (h : EvD K te ρ d) : TvD K (tTru K te) ρ (!P.isEmpty) := by
  have e : (P.map pT).isEmpty = P.isEmpty := by cases P <;> rfl
  rcases hd with rfl | rfl
  · rw [← e]; exact tv_truT h
  · rw [← e]; exact tv_truZ h
theorem isPairs_po {d : D} {P : List Pr} (hd : IsPoly d P) : IsPairs d P := by
  rcases hd with rfl | rfl
  · exact ⟨_, isPrs_T P, .inr (.inl rfl)⟩
  · exact ⟨_, isPrs_T P, .inr (.inr rfl)⟩
def fO (a : List (Kk × Int)) : D → Option D
  | .tup [.str r, .int s] => if (gget a (r, s)).getD 0 ≠ 0 then some (tT (r, s, (gget a (r, s)).getD 0)) else none
  | _ => none
theorem fO_all (a : List (Kk × Int)) : ((sortK (a.map (·.1))).map tupK).filterMap (fO a) = (ordOf a).map tT := by
  unfold ordOf
  rw [List.filterMap_map, List.map_filterMap]
  congr 1
  funext k
  show (if (gget a (k.1, k.2)).getD 0 ≠ 0 then some (tT (k.1, k.2, (gget a (k.1, k.2)).getD 0)) else none) = _
  by_cases z : (gget a k).getD 0 ≠ 0
  · rw [if_pos z, if_pos z]; rfl
  · rw [if_neg z, if_neg z]; rfl
theorem isTms_len : ∀ {ds : List D} {ts : List Tm}, IsTms ds ts → ds.length = ts.length
  | _, _, .nil => rfl
  | _, _, .lst h => congrArg (· + 1) (isTms_len h)
  | _, _, .tup h => congrArg (· + 1) (isTms_len h)
theorem len_sortK (l : List Kk) : (sortK l).length = l.length := List.length_mergeSort _
end
end Go
set_option Elab.async false
set_option linter.all false
set_option maxRecDepth 100000
set_option maxHeartbeats 1000000
namespace Go
open PySem PySem.Spec PyProof.Rows L2 DL
/-! ### data that can be compared -/
theorem sh_tT {t : Tm} (h : PyData.strOk t.1 = true) : Sh 2 (tT t) := Sh.tup fun d hd => by
  simp at hd; rcases hd with rfl | rfl | rfl
  · exact .str h
  · exact .int _
  · exact .int _
theorem sh_tL {t : Tm} (h : PyData.strOk t.1 = true) : Sh 2 (tL t) := Sh.lst fun d hd => by
  simp at hd; rcases hd with rfl | rfl | rfl
  · exact .str h
  · exact .int _
  · exact .int _
theorem sh_pT (p : Pr) : Sh 2 (pT p) := Sh.tup fun d hd => by
  simp at hd; rcases hd with rfl | rfl
  · exact .int _
  · exact .int _
theorem sh_pL (p : Pr) : Sh 2 (pL p) := Sh.lst fun d hd => by
  simp at hd; rcases hd with rfl | rfl
  · exact .int _
  · exact .int _
theorem sh_eTup {L : List Tm} (h : NOk L) : Sh 3 (eTup L) := Sh.tup fun d hd => by
  obtain ⟨t, ht, rfl⟩ := List.mem_map.mp hd
  exact sh_tT (h t ht)
theorem sh_ePoly (P : List Pr) : Sh 3 (ePoly P) := Sh.tup fun d hd => by
  obtain ⟨t, _, rfl⟩ := List.mem_map.mp hd
  exact sh_pT t
theorem sh_tms : ∀ {ds : List D} {ts : List Tm}, IsTms ds ts → NOk ts → ∀ d ∈ ds, Sh 2 d
  | _, _, .nil, _, d, hd => nomatch hd
  | _, _, .lst h, ok, d, hd => by
    rcases List.mem_cons.mp hd with rfl | hd
    · exact sh_tL (ok _ List.mem_cons_self)
    · exact sh_tms h (fun t ht => ok t (List.mem_cons_of_mem _ ht)) d hd
  | _, _, .tup h, ok, d, hd => by
    rcases List.mem_cons.mp hd with rfl | hd
    · exact sh_tT (ok _ List.mem_cons_self)
    · exact sh_tms h (fun t ht => ok t (List.mem_cons_of_mem _ ht)) d hd
theorem sh_prs : ∀ {ds : List D} {ps : List Pr}, IsPrs ds ps → ∀ d ∈ ds, Sh 2 d
  | _, _, .nil, d, hd => nomatch hd
  | _, _, .lst h, d, hd => by
    rcases List.mem_cons.mp hd with rfl | hd
    · exact sh_pL _
    · exact sh_prs h d hd
  | _, _, .tup h, d, hd => by
    rcases List.mem_cons.mp hd with rfl | hd
    · exact sh_pT _
    · exact sh_prs h d hd
theorem sh_terms {d : D} {ts : List Tm} (h : IsTerms d ts) (ok : NOk ts) : Sh 3 d := by
  obtain ⟨ds, h1, rfl | rfl⟩ := h
  · exact Sh.lst (sh_tms h1 ok)
  · exact Sh.tup (sh_tms h1 ok)
theorem sh_pairs {d : D} {ps : List Pr} (h : IsPairs d ps) : Sh 3 d := by
  obtain ⟨ds, h1, rfl | rfl | rfl⟩ := h
  · exact Sh.lst (sh_prs h1)
  · exact Sh.tup (sh_prs h1)
  · exact ⟨(Sh.tup (sh_prs h1)).pl, (Sh.tup (sh_prs h1)).lay, (Sh.tup (sh_prs h1)).dep⟩
theorem nok_ord {ts : List Tm} (h : NOk ts) : NOk (ordM ts) := fun t ht => by
  by_cases z : ∃ u ∈ ts, u.k = t.k
  · obtain ⟨u, hu, e⟩ := z
    have e' : (u.1, u.2.1) = (t.1, t.2.1) := e
    rw [← (Prod.mk.inj e').1]
    exact h u hu
  · have := ordM_mem.mp ht
    rw [cf_zero fun u hu e => z ⟨u, hu, e⟩] at this
    exact absurd this.1.symm this.2
theorem nok_append {a b : List Tm} (ha : NOk a) (hb : NOk b) : NOk (a ++ b) := fun t ht => by
  rcases List.mem_append.mp ht with h | h
  · exact ha t h
  · exact hb t h
theorem nok_mul {ps : List Pr} {ts : List Tm} (h : NOk ts) : NOk (mulM ps ts) := fun t ht => by
  obtain ⟨p, _, h1⟩ := List.mem_flatMap.mp ht
  obtain ⟨u, hu, rfl⟩ := List.mem_map.mp h1
  exact h u hu
theorem nok_mov {b : Int} {ts : List Tm} (h : NOk ts) : NOk (movM b ts) := fun t ht => by
  obtain ⟨u, hu, rfl⟩ := List.mem_map.mp ht
  exact h u hu
/-! ### lengths -/
theorem len_ord (ts : List Tm) : (ordM ts).length ≤ ts.length := by
  unfold ordM ordOf
  refine Nat.le_trans (List.length_filterMap_le _ _) ?_
  rw [len_sortK, List.length_map]
  have := accM_len ts []
  simpa using this
theorem len_mul (ps : List Pr) (ts : List Tm) : (mulM ps ts).length = ps.length * ts.length := by
  unfold mulM
  induction ps with
  | nil => simp
  | cons p ps ih => rw [List.flatMap_cons, List.length_append, ih, List.length_map, List.length_cons, Nat.add_mul]; omega
theorem len_mov (b : Int) (ts : List Tm) : (movM b ts).length = ts.length := List.length_map _
section
variable {K : PySem.W.Frag} {W : WX} {ρ : List Sl} {te : TE} {d : D}
theorem tv_yes : TvD K tYes ρ true := fun F0 H0 F H σ R Q q => q F H (.refl R.ex)
theorem isTms_append : ∀ {ds es : List D} {a b : List Tm}, IsTms ds a → IsTms es b → IsTms (ds ++ es) (a ++ b)
  | _, _, _, _, .nil, h => h
  | _, _, _, _, .lst g, h => .lst (isTms_append g h)
  | _, _, _, _, .tup g, h => .tup (isTms_append g h)
theorem av_starA {t : TA} {xs ds : List D} (h : EvD K te ρ d) (hd : d = .lst xs ∨ d = .tup xs) (hr : AvD K t ρ ds) : AvD K (StX.tStar K te t) ρ (xs ++ ds) := by
  rcases hd with rfl | rfl
  · exact av_starL (sl_d h) hr
  · exact av_starT (st_d h) hr
theorem isPrs_len : ∀ {ds : List D} {ts : List Pr}, IsPrs ds ts → ds.length = ts.length
  | _, _, .nil => rfl
  | _, _, .lst h => congrArg (· + 1) (isPrs_len h)
  | _, _, .tup h => congrArg (· + 1) (isPrs_len h)
/-- an item that is a term -/
theorem isTms_mem : ∀ {ds : List D} {ts : List Tm}, IsTms ds ts → ∀ e ∈ ds, ∃ t ∈ ts, e = tL t ∨ e = tT t
  | _, _, .nil, e, he => nomatch he
  | _, _, .lst h, e, he => by
    rcases List.mem_cons.mp he with rfl | he
    · exact ⟨_, List.mem_cons_self, .inl rfl⟩
    · obtain ⟨t, ht, h⟩ := isTms_mem h e he
      exact ⟨t, List.mem_cons_of_mem _ ht, h⟩
  | _, _, .tup h, e, he => by
    rcases List.mem_cons.mp he with rfl | he
    · exact ⟨_, List.mem_cons_self, .inr rfl⟩
    · obtain ⟨t, ht, h⟩ := isTms_mem h e he
      exact ⟨t, List.mem_cons_of_mem _ ht, h⟩
theorem isPrs_mem : ∀ {ds : List D} {ts : List Pr}, IsPrs ds ts → ∀ e ∈ ds, ∃ t ∈ ts, e = pL t ∨ e = pT t
  | _, _, .nil, e, he => nomatch he
  | _, _, .lst h, e, he => by
    rcases List.mem_cons.mp he with rfl | he
    · exact ⟨_, List.mem_cons_self, .inl rfl⟩
    · obtain ⟨t, ht, h⟩ := isPrs_mem h e he
      exact ⟨t, List.mem_cons_of_mem _ ht, h⟩
  | _, _, .tup h, e, he => by
    rcases List.mem_cons.mp he with rfl | he
    · exact ⟨_, List.mem_cons_self, .inr rfl⟩
    · obtain ⟨t, ht, h⟩ := isPrs_mem h e he
      exact ⟨t, List.mem_cons_of_mem _ ht, h⟩
/-- a function of a term, of its datum -/
def onT (f : Tm → Option D) : D → Option D
  | .lst [.str r, .int s, .int c] => f (r, s, c)
  | .tup [.str r, .int s, .int c] => f (r, s, c)
  | _ => none
theorem onT_all (f : Tm → Option D) : ∀ {ds : List D} {ts : List Tm}, IsTms ds ts → ds.filterMap (onT f) = ts.filterMap f
  | _, _, .nil => rfl
  | _, _, .lst (t := t) h => by rw [List.filterMap_cons, List.filterMap_cons, onT_all f h]; rfl
  | _, _, .tup (t := t) h => by rw [List.filterMap_cons, List.filterMap_cons, onT_all f h]; rfl
theorem onT_at (f : Tm → Option D) {e : D} {t : Tm} (h : e = tL t ∨ e = tT t) : onT f e = f t := by rcases h with rfl | rfl <;> rfl
/-- the target of three -/
theorem tg_term {i j k : Nat} {e : D} {t : Tm} (h : e = tL t ∨ e = tT t) : TgD K (gSeqA K 3 (gCons (gName i) (gCons (gName j) (gCons (gName k) gNil)))) ([i] ++ ([j] ++ ([k] ++ []))) e ρ (((ρ.set i (.d (.str t.1))).set j (.d (.int t.2.1))).set k (.d (.int t.2.2))) := by
  rcases h with rfl | rfl
  · exact tg_seqL (tgs_cons tg_name (tgs_cons tg_name (tgs_cons tg_name tgs_nil))) rfl
  · exact tg_seqT (tgs_cons tg_name (tgs_cons tg_name (tgs_cons tg_name tgs_nil))) rfl
theorem tg_pair {i j : Nat} {e : D} {t : Pr} (h : e = pL t ∨ e = pT t) : TgD K (gSeqA K 2 (gCons (gName i) (gCons (gName j) gNil))) ([i] ++ ([j] ++ [])) e ρ ((ρ.set i (.d (.int t.1))).set j (.d (.int t.2))) := by
  rcases h with rfl | rfl
  · exact tg_seqL (tgs_cons tg_name (tgs_cons tg_name tgs_nil)) rfl
  · exact tg_seqT (tgs_cons tg_name (tgs_cons tg_name tgs_nil)) rfl
theorem filterMap_some {α β : Type} (f : α → β) (l : List α) : l.filterMap (fun a => some (f a)) = l.map f := by
  induction l with
  | nil => rfl
  | cons a l ih => rw [List.filterMap_cons]; simp only [List.map_cons]; rw [ih]
end
end Go
set_option Elab.async false
set_option linter.all false
set_option maxRecDepth 100000
set_option maxHeartbeats 1000000
namespace Go
open PySem PySem.Spec PyProof.Rows L2 DL
section
variable {K : PySem.W.Frag} {W : WX} {ρ : List Sl} {te : TE} {d : D}
theorem fm_congr {α β : Type} {f g : α → Option β} {l : List α} (h : ∀ a ∈ l, f a = g a) : l.filterMap f = l.filterMap g := by
  induction l with
  | nil => rfl
  | cons a l ih => rw [List.filterMap_cons, List.filterMap_cons, h a List.mem_cons_self, ih fun b hb => h b (List.mem_cons_of_mem _ hb)]
/-! ### sum_times -/
def onP (f : Pr → List D) : D → List D
  | .lst [.int b, .int c] => f (b, c)
  | .tup [.int b, .int c] => f (b, c)
  | _ => []
theorem onP_all (f : Pr → List D) : ∀ {ds : List D} {ps : List Pr}, IsPrs ds ps → ds.flatMap (onP f) = ps.flatMap f
  | _, _, .nil => rfl
  | _, _, .lst h => by rw [List.flatMap_cons, List.flatMap_cons, onP_all f h]; rfl
  | _, _, .tup h => by rw [List.flatMap_cons, List.flatMap_cons, onP_all f h]; rfl
theorem onP_at (f : Pr → List D) {e : D} {t : Pr} (h : e = pL t ∨ e = pT t) : onP f e = f t := by rcases h with rfl | rfl <;> rfl
/-! ### the law's sums as dicts -/
def pairsOf (L : List Tm) : List (Kk × Int) := L.map fun t => (Tm.k t, t.2.2)
theorem zip_eD : ∀ L : List Tm, (eKs L).zip (eVs L) = encT (pairsOf L)
  | [] => rfl
  | t :: L => by
    show ((kk (Tm.k t)) :: eKs L).zip (D.int t.2.2 :: eVs L) = _
    rw [List.zip_cons_cons, zip_eD L]; rfl
theorem pairs_keys (L : List Tm) : (pairsOf L).map (·.1) = L.map Tm.k := by unfold pairsOf; rw [List.map_map]; rfl
theorem can_nodup {L : List Tm} (h : Can L) : (L.map Tm.k).Nodup := by
  refine List.pairwise_map.mpr (h.lt.imp fun {a b} hab e => ?_)
  unfold ltT at hab
  rw [e, ltK_irrefl] at hab; cases hab
theorem gget_of_mem {a : List (Kk × Int)} (nd : (a.map (·.1)).Nodup) {p : Kk × Int} (hp : p ∈ a) : gget a p.1 = some p.2 := by
  induction a with
  | nil => cases hp
  | cons q a ih =>
    have nd' := List.nodup_cons.mp nd
    unfold gget
    rcases List.mem_cons.mp hp with rfl | h
    · rw [if_pos rfl]
    · rw [if_neg fun e => nd'.1 (show q.1 ∈ _ by rw [e]; exact List.mem_map_of_mem h)]
      exact ih nd'.2 h
theorem pairs_get {L : List Tm} (h : Can L) {t : Tm} (ht : t ∈ L) : gget (pairsOf L) t.k = some t.2.2 :=
  gget_of_mem (p := (Tm.k t, t.2.2)) (by rw [pairs_keys]; exact can_nodup h) (List.mem_map_of_mem ht)
theorem sortK_can {L : List Tm} (h : Can L) : sortK (L.map Tm.k) = L.map Tm.k := by
  unfold sortK
  refine List.mergeSort_of_pairwise (List.pairwise_map.mpr (h.lt.imp fun {a b} hab => ?_))
  rw [leK_eq, ltK_asymm hab]; rfl
/-- a term's items, by place -/
theorem ev_it0 {e : D} {t : Tm} (h : EvD K te ρ e) (ht : e = tL t ∨ e = tT t) : EvD K (tOp (rIxA K) te (tC (.int 0))) ρ (.str t.1) := by
  rcases ht with rfl | rfl
  · exact ev_ixL (i := 0) (sl_d h) ev_int rfl
  · exact ev_ixT (i := 0) (st_d h) ev_int rfl
theorem ev_it1 {e : D} {t : Tm} (h : EvD K te ρ e) (ht : e = tL t ∨ e = tT t) : EvD K (tOp (rIxA K) te (tC (.int 1))) ρ (.int t.2.1) := by
  rcases ht with rfl | rfl
  · exact ev_ixL (i := 1) (sl_d h) ev_int rfl
  · exact ev_ixT (i := 1) (st_d h) ev_int rfl
theorem ev_it2 {e : D} {t : Tm} (h : EvD K te ρ e) (ht : e = tL t ∨ e = tT t) : EvD K (tOp (rIxA K) te (tC (.int 2))) ρ (.int t.2.2) := by
  rcases ht with rfl | rfl
  · exact ev_ixL (i := 2) (sl_d h) ev_int rfl
  · exact ev_ixT (i := 2) (st_d h) ev_int rfl
def encS (d0 : D) (a : List (Kk × Int)) : List Sl := [.d d0, .ot (encT a), .no, .no, .no]
abbrev tbS (K : PySem.W.Frag) : TS := sDPut (tVar 1) (tTup (tCons (tOp (rIxA K) (tVar 2) (tC (.int 0))) (tCons (tOp (rIxA K) (tVar 2) (tC (.int 1))) tNil))) (tOp (rAddA K) (tDGet2 (tVar 1) (tTup (tCons (tOp (rIxA K) (tVar 2) (tC (.int 0))) (tCons (tOp (rIxA K) (tVar 2) (tC (.int 1))) tNil))) (tC (.int 0))) (tOp (rIxA K) (tVar 2) (tC (.int 2))))
theorem run_lawsum (d0 : D) : ∀ {ds : List D} {ts : List Tm}, IsTms ds ts → ∀ a : List (Kk × Int), a.length + ts.length ≤ 4000000 → Run (Turn1 K W (gName 2) (tbS K)) ds (encS d0 a) (.nx (encS d0 (accM a ts))) := by
  intro ds ts h
  have one : ∀ (e : D) (t : Tm) (a : List (Kk × Int)), (e = tL t ∨ e = tT t) → a.length < 16777216 → Turn1 K W (gName 2) (tbS K) e (encS d0 a) (.nx (encS d0 (stepM a t))) := fun e t a ht hl => by
    have hk : EvD K (tTup (tCons (tOp (rIxA K) (tVar 2) (tC (.int 0))) (tCons (tOp (rIxA K) (tVar 2) (tC (.int 1))) tNil))) [.d d0, .ot (encT a), .d e, .no, .no] (.tup ((kk (Tm.k t)).map kD)) := ev_tup (av_cons (ev_it0 (ev_var rfl) ht) (av_cons (ev_it1 (ev_var rfl) ht) av_nil)) le2
    refine t1_name (sv_nx (sv_putT (k := kk (Tm.k t)) (d := .int ((gget a (Tm.k t)).getD 0 + t.2.2)) rfl (ev_addI (ev_eq (ev_get2T (dt_own rfl) hk ev_int) (get2_enc _ _)) (ev_it2 (ev_var rfl) ht)) hk (gput_len_lt hl)) [2] ?_)
    rw [gput_enc]; rfl
  induction h with
  | nil => intro a _; exact .nil
  | @lst t ds ts h ih =>
    intro a hl
    have hs : (stepM a t).length ≤ a.length + 1 := gput_length _ _ a
    rw [List.length_cons] at hl
    exact .go (one _ t a (.inl rfl) (by omega)) (ih (stepM a t) (by omega))
  | @tup t ds ts h ih =>
    intro a hl
    have hs : (stepM a t).length ≤ a.length + 1 := gput_length _ _ a
    rw [List.length_cons] at hl
    exact .go (one _ t a (.inr rfl) (by omega)) (ih (stepM a t) (by omega))
theorem gput_new {κ β : Type} [DecidableEq κ] {k : κ} {v : β} : ∀ {a : List (κ × β)}, k ∉ a.map (·.1) → gput a k v = a ++ [(k, v)]
  | [], _ => rfl
  | p :: r, h => by
    unfold gput
    rw [if_neg fun e => h (by rw [← e]; exact List.mem_cons_self), gput_new fun z => h (List.mem_cons_of_mem _ z)]; rfl
/-- what the second loop keeps -/
def keepM (a : List (Kk × Int)) (ks : List Kk) : List (Kk × Int) := ks.filterMap fun k => if (gget a k).getD 0 ≠ 0 then some (k, (gget a k).getD 0) else none
theorem keep_mem {a : List (Kk × Int)} {ks : List Kk} {k : Kk} (h : k ∈ (keepM a ks).map (·.1)) : k ∈ ks := by
  obtain ⟨p, hp, rfl⟩ := List.mem_map.mp h
  obtain ⟨k', hk', e⟩ := List.mem_filterMap.mp hp
  by_cases z : (gget a k').getD 0 ≠ 0
  · rw [if_pos z] at e; cases e; exact hk'
  · rw [if_neg z] at e; cases e
theorem keep_pairs (a : List (Kk × Int)) : keepM a (sortK (a.map (·.1))) = pairsOf (ordOf a) := by
  unfold keepM pairsOf ordOf
  rw [List.map_filterMap]
  congr 1
  funext k
  by_cases z : (gget a k).getD 0 ≠ 0
  · rw [if_pos z, if_pos z]; rfl
  · rw [if_neg z, if_neg z]; rfl
def encS2 (d0 : D) (a b : List (Kk × Int)) : List Sl := [.d d0, .ot (encT a), .no, .ot (encT b), .no]
abbrev tbS2 (K : PySem.W.Frag) : TS := tIfS (tTest (tOp (rNeD K) (tDGet (tVar 1) (tVar 4)) (tC (.int 0)))) (sDPut (tVar 3) (tVar 4) (tDGet (tVar 1) (tVar 4))) tNext
theorem run_keep (d0 : D) (a : List (Kk × Int)) : ∀ (ks done : List Kk), (done ++ ks).Nodup → (∀ k ∈ ks, k ∈ a.map (·.1)) → done.length + ks.length ≤ 4000000 →
    Run (Turn1 K W (gName 4) (tbS2 K)) (ks.map tupK) (encS2 d0 a (keepM a done)) (.nx (encS2 d0 a (keepM a (done ++ ks))))
  | [], done, _, _, _ => by rw [List.append_nil]; exact .nil
  | k :: ks, done, nd, hk, hl => by
    rw [List.length_cons] at hl
    have ih := run_keep d0 a ks (done ++ [k]) (by rw [List.append_assoc]; exact nd) (fun x hx => hk x (List.mem_cons_of_mem _ hx)) (by rw [List.length_append, List.length_singleton]; omega)
    rw [List.append_assoc] at ih
    obtain ⟨v, hv⟩ := gget_some (hk k List.mem_cons_self)
    have hg : gget (encT a) (kk k) = some (.int v) := by rw [gget_enc, hv]; rfl
    have hd : EvD K (tDGet (tVar 1) (tVar 4)) [.d d0, .ot (encT a), .no, .ot (encT (keepM a done)), .d (tupK k)] (.int v) := ev_dgetT (k := kk k) (dt_own rfl) (ev_var rfl) hg
    refine .go (t1_name (sv_nx (sv_if (b := !(v == 0)) (o := .nx [.d d0, .ot (encT a), .no, .ot (encT (keepM a (done ++ [k]))), .d (tupK k)]) (tv_neI hd ev_int) (fun hb => ?_) fun hb => ?_) [4] rfl)) ih
    · have ne : v ≠ 0 := fun z => by rw [z] at hb; cases hb
      have hn : k ∉ (keepM a done).map (·.1) := fun z => by
        have h1 := keep_mem z
        have h2 := (List.nodup_append.mp nd).2.2 k h1 k List.mem_cons_self
        exact h2 rfl
      have hlen : (keepM a done).length ≤ done.length := List.length_filterMap_le _ _
      have e1 : keepM a (done ++ [k]) = keepM a done ++ [(k, v)] := by
        unfold keepM
        rw [List.filterMap_append, List.filterMap_cons, List.filterMap_nil]
        have hv0 : (gget a k).getD 0 = v := by rw [hv]; rfl
        rw [hv0, if_pos ne]
      refine sv_to (sv_putT (k := kk k) (d := .int v) rfl hd (ev_var rfl) (gput_len_lt (by omega))) ?_
      rw [gput_enc, gput_new hn, e1]; rfl
    · have e0 : v = 0 := by
        by_cases z : v = 0
        · exact z
        · rw [show (v == 0) = false from beq_eq_false_iff_ne.mpr z] at hb; cases hb
      have e1 : keepM a (done ++ [k]) = keepM a done := by
        unfold keepM
        rw [List.filterMap_append, List.filterMap_cons, List.filterMap_nil]
        have hv0 : (gget a k).getD 0 = v := by rw [hv]; rfl
        rw [hv0, if_neg (fun z => z e0), List.append_nil]
      rw [e1]
      exact sv_next
theorem frz_pairs (L : List Tm) : Sl.frz (.ot (encT (pairsOf L))) = eDict L := by
  show D.dt ((encT (pairsOf L)).map (·.1)) ((encT (pairsOf L)).map (·.2)) = _
  unfold eDict eKs eVs encT pairsOf
  rw [List.map_map, List.map_map, List.map_map, List.map_map]; rfl
theorem tupK_pl (l : List Kk) : D.pls (l.map tupK) = true := by
  induction l with
  | nil => rfl
  | cons k l ih => show ((tupK k).pl && D.pls (l.map tupK)) = true; rw [ih]; rfl
theorem tupK_py (l : List Kk) : (l.map tupK).map D.py = l.map pyK := by rw [List.map_map]; rfl
def fU (a : List (Kk × Int)) : D → Option D
  | .tup [.str r, .int s] => some (tT (r, s, (gget a (r, s)).getD 0))
  | _ => none
end
end Go
set_option Elab.async false
set_option linter.all false
set_option maxRecDepth 100000
set_option maxHeartbeats 1000000
namespace Go
open PySem PySem.Spec PyProof.Rows L2 DL
section
variable {K : PySem.W.Frag} {W : WX} {ρ : List Sl} {te : TE} {d : D}
theorem eKs_tup (L : List Tm) : ((eKs L).map fun k => D.tup (k.map kD)) = (L.map Tm.k).map tupK := by unfold eKs; rw [List.map_map, List.map_map]; rfl
theorem keys_eDict (L : List Tm) : KeysD (eDict L) ((L.map Tm.k).map tupK) := .inr ⟨eKs L, eVs L, rfl, (eKs_tup L).symm⟩
theorem evdt_eDict {L : List Tm} (h : EvD K te ρ (eDict L)) : EvDT K te ρ (encT (pairsOf L)) := by
  have := dt_d (ks := eKs L) (ds := eVs L) h
  rw [zip_eD] at this; exact this
def fV (b : Int) (a : List (Kk × Int)) : D → Option D
  | .tup [.str r, .int s] => some (tT (r, s + b, (gget a (r, s)).getD 0))
  | _ => none
/-! ### _law_mul -/
def encI (a : List (Int × Int)) : List (Key × D) := a.map fun p => (.inl p.1, .int p.2)
theorem gget_encI (k : Int) : ∀ a : List (Int × Int), gget (encI a) (.inl k) = (gget a k).map D.int
  | [] => rfl
  | p :: r => by
    have ih := gget_encI k r
    show gget (((.inl p.1 : Key), D.int p.2) :: encI r) (.inl k) = _
    unfold gget
    by_cases e : p.1 = k
    · rw [if_pos (by rw [e]), if_pos e]; rfl
    · rw [if_neg fun z => e (Sum.inl.inj z), if_neg e, ih]
theorem gput_encI (k v : Int) : ∀ a : List (Int × Int), gput (encI a) (.inl k) (.int v) = encI (gput a k v)
  | [] => rfl
  | p :: r => by
    have ih := gput_encI k v r
    show gput (((.inl p.1 : Key), D.int p.2) :: encI r) (.inl k) (.int v) = _
    unfold gput
    by_cases e : p.1 = k
    · rw [if_pos (by rw [e]), if_pos e]; rfl
    · rw [if_neg fun z => e (Sum.inl.inj z), if_neg e, ih]; rfl
theorem zip_eP : ∀ P : List Pr, (P.map fun p => (.inl p.1 : Key)).zip (P.map fun p => D.int p.2) = encI P
  | [] => rfl
  | p :: P => by rw [List.map_cons, List.map_cons, List.zip_cons_cons, zip_eP P]; rfl
theorem gget_of_memI {a : List (Int × Int)} (nd : (a.map (·.1)).Nodup) {p : Int × Int} (hp : p ∈ a) : gget a p.1 = some p.2 := by
  induction a with
  | nil => cases hp
  | cons q a ih =>
    have nd' := List.nodup_cons.mp nd
    unfold gget
    rcases List.mem_cons.mp hp with rfl | h
    · rw [if_pos rfl]
    · rw [if_neg fun e => nd'.1 (show q.1 ∈ _ by rw [e]; exact List.mem_map_of_mem h)]
      exact ih nd'.2 h
theorem asc_nodup {P : List Pr} (h : P.Pairwise (fun a b => a.1 < b.1)) : (P.map (·.1)).Nodup := List.pairwise_map.mpr (h.imp fun {a b} hab e => by omega)
theorem evdk_eP {P : List Pr} (h : EvD K te ρ (ePDict P)) : EvDK K te ρ (encI P) := by
  have := dk_d (ks := P.map fun p => (.inl p.1 : Key)) (ds := P.map fun p => D.int p.2) h
  rw [zip_eP] at this; exact this
def mulT (p : Pr) (t : Tm) : Tm := (t.1, t.2.1 + p.1, p.2 * t.2.2)
abbrev tbM (K : PySem.W.Frag) : TS := (tSeq (tAsg (tTup (tCons (tOp (rIxA K) (tVar 4) (tC (.int 0))) (tCons (tOp (rAddA K) (tOp (rIxA K) (tVar 4) (tC (.int 1))) (tVar 3)) tNil))) (gName 5))
    (sDPut (tVar 2) (tVar 5) (tOp (rAddA K) (tDGet2 (tVar 2) (tVar 5) (tC (.int 0))) (tOp rMulA (tDGet (tVar 0) (tVar 3)) (tDGet (tVar 1) (tVar 4))))))
def encM (P : List Pr) (L : List Tm) (a : List (Kk × Int)) (x : Sl) : List Sl := [.d (ePDict P), .d (eDict L), .ot (encT a), x, .no, .no]
theorem run_mul1 {P : List Pr} {L : List Tm} (hP : P.Pairwise (fun a b => a.1 < b.1)) (hL : Can L) (bP : BdP 1000 P) (bL : Bd 100000 L) {p : Pr} (hp : p ∈ P) : ∀ (M : List Tm) (a : List (Kk × Int)), (∀ t ∈ M, t ∈ L) → a.length + M.length ≤ 4000000 →
    Run (Turn1 K W (gName 4) (tbM K)) ((M.map Tm.k).map tupK) (encM P L a (.d (.int p.1))) (.nx (encM P L (accM a (M.map (mulT p))) (.d (.int p.1))))
  | [], a, _, _ => .nil
  | t :: M, a, hm, hl => by
    rw [List.length_cons] at hl
    have hs : (stepM a (mulT p t)).length ≤ a.length + 1 := gput_length _ _ a
    have ih := run_mul1 hP hL bP bL hp M (stepM a (mulT p t)) (fun u hu => hm u (List.mem_cons_of_mem _ hu)) (by omega)
    have ht := hm t List.mem_cons_self
    have hge : gget (encT (pairsOf L)) (kk t.k) = some (.int t.2.2) := by rw [gget_enc, pairs_get hL ht]; rfl
    have hgp : gget (encI P) (.inl p.1) = some (.int p.2) := by rw [gget_encI, gget_of_memI (asc_nodup hP) hp]; rfl
    refine .go (t1_name (sv_nx (sv_seq (sv_asg (d := .tup ((kk (Tm.k (mulT p t))).map kD)) (ev_tup (av_cons (ev_ixT (i := 0) (st_d (ev_var rfl)) ev_int rfl) (av_cons (ev_addI (ev_ixT (i := 1) (st_d (ev_var rfl)) ev_int rfl) (ev_var rfl)) av_nil)) le2)) (sv_putT (k := kk (Tm.k (mulT p t))) (d := .int ((gget a (Tm.k (mulT p t))).getD 0 + p.2 * t.2.2)) rfl (ev_addI (ev_eq (ev_get2T (k := kk (Tm.k (mulT p t))) (dt_own rfl) (ev_var rfl) ev_int) (get2_enc _ _)) (ev_mulI (ev_dgetK (k := .inl p.1) (evdk_eP (ev_var rfl)) (ev_var rfl) hgp) (ev_dgetT (k := kk t.k) (evdt_eDict (ev_var rfl)) (ev_var rfl) hge) (mul_ok 1000 100000 (bP p hp) (bL t ht) (by decide)))) (ev_var rfl) (gput_len_lt (by omega)))) [4, 5] ?_)) ih
    rw [gput_enc]; rfl
theorem accM_append (a : List (Kk × Int)) (x y : List Tm) : accM a (x ++ y) = accM (accM a x) y := List.foldl_append
theorem run_mul {P : List Pr} {L : List Tm} (hP : P.Pairwise (fun a b => a.1 < b.1)) (hL : Can L) (bP : BdP 1000 P) (bL : Bd 100000 L) : ∀ (Q : List Pr) (a : List (Kk × Int)), (∀ p ∈ Q, p ∈ P) → a.length + Q.length * L.length ≤ 4000000 →
    Run (Turn1 K W (gName 3) (tLockA (tFor (iSeq K (tVar 1)) (gName 4) (tbM K)))) (Q.map fun p => D.int p.1) (encM P L a .no) (.nx (encM P L (accM a (mulM Q L)) .no))
  | [], a, _, _ => .nil
  | p :: Q, a, hq, hl => by
    rw [List.length_cons, Nat.add_mul, Nat.one_mul] at hl
    have h1 := accM_len (L.map (mulT p)) a
    rw [List.length_map] at h1
    have ih := run_mul hP hL bP bL Q (accM a (L.map (mulT p))) (fun u hu => hq u (List.mem_cons_of_mem _ hu)) (by omega)
    have e1 : accM a (mulM (p :: Q) L) = accM (accM a (L.map (mulT p))) (mulM Q L) := by rw [← accM_append]; rfl
    rw [e1]
    refine .go (t1_name (sv_nx (sv_forKeys (s := 1) (u0 := eDict L) rfl (keys_eDict L) (run_mul1 hP hL bP bL (hq p List.mem_cons_self) L a (fun _ h => h) (by omega)) (fun _ _ _ z => nomatch z)) [3] ?_)) ih
    rfl
theorem cf_acc {a : List (Kk × Int)} (nd : (a.map (·.1)).Nodup) (k : Kk) : cf (a.map fun q => (q.1.1, q.1.2, q.2)) k = (gget a k).getD 0 := by
  induction a with
  | nil => rfl
  | cons q a ih =>
    have nd' := List.nodup_cons.mp nd
    rw [List.map_cons]
    show (if q.1 = k then q.2 else 0) + cf (a.map fun q => (q.1.1, q.1.2, q.2)) k = _
    rw [ih nd'.2]
    have e2 : gget (q :: a) k = if q.1 = k then some q.2 else gget a k := rfl
    rw [e2]
    by_cases e : q.1 = k
    · rw [if_pos e, if_pos e, gget_none (by rw [← e]; exact nd'.1)]
      show q.2 + 0 = q.2; omega
    · rw [if_neg e, if_neg e, Int.zero_add]
theorem keys_own (a : List (Kk × Int)) : KeysD (Sl.frz (.ot (encT a))) ((a.map (·.1)).map tupK) := .inr ⟨(encT a).map (·.1), (encT a).map (·.2), rfl, by unfold encT; rw [List.map_map, List.map_map, List.map_map]; rfl⟩
theorem evdt_own {a : List (Kk × Int)} (h : EvD K te ρ (Sl.frz (.ot (encT a)))) : EvDT K te ρ (encT a) := by
  have := dt_d (ks := (encT a).map (·.1)) (ds := (encT a).map (·.2)) h
  rw [zip_self] at this; exact this
end
end Go
set_option Elab.async false
set_option linter.all false
set_option maxRecDepth 100000
set_option maxHeartbeats 1000000
namespace Go
open PySem PySem.Spec PyProof.Rows L2 DL
section
variable {K : PySem.W.Frag} {W : WX} {ρ : List Sl} {te : TE} {d : D}
/-! ### _law_poly -/
theorem get2_encI (k : Int) (a : List (Int × Int)) : (gget (encI a) (.inl k)).getD (.int 0) = D.int ((gget a k).getD 0) := by
  rw [gget_encI]; cases gget a k <;> rfl
def encP (d0 : D) (a : List (Int × Int)) : List Sl := [.d d0, .ok (encI a), .no, .no, .no]
abbrev tbP (K : PySem.W.Frag) : TS := sDPut (tVar 1) (tOp (rIxA K) (tVar 2) (tC (.int 0))) (tOp (rAddA K) (tDGet2 (tVar 1) (tOp (rIxA K) (tVar 2) (tC (.int 0))) (tC (.int 0))) (tOp (rIxA K) (tVar 2) (tC (.int 1))))
theorem gputI_len {a : List (Int × Int)} {n : Nat} (h : a.length < n) : (encI a).length < n := by unfold encI; rw [List.length_map]; exact h
theorem body_poly (d0 : D) (a : List (Int × Int)) (p : Pr) (e : D) (h0 : EvD K (tOp (rIxA K) (tVar 2) (tC (.int 0))) [.d d0, .ok (encI a), .d e, .no, .no] (.int p.1)) (h1 : EvD K (tOp (rIxA K) (tVar 2) (tC (.int 1))) [.d d0, .ok (encI a), .d e, .no, .no] (.int p.2)) (hl : a.length < 16777216) :
    SvD K W (tbP K) [.d d0, .ok (encI a), .d e, .no, .no] (.nx (encP d0 (stepP a p))) := by
  have hk : EvD K (tOp (rIxA K) (tVar 2) (tC (.int 0))) [.d d0, .ok (encI a), .d e, .no, .no] (kD (.inl p.1)) := h0
  refine sv_nx (sv_putK (k := .inl p.1) (d := .int ((gget a p.1).getD 0 + p.2)) rfl (ev_addI (ev_eq (ev_get2K (dk_own rfl) hk ev_int) (get2_encI _ _)) h1) hk (gputI_len hl)) [2] ?_
  rw [gput_encI]; rfl
theorem run_poly (d0 : D) : ∀ {ds : List D} {ps : List Pr}, IsPrs ds ps → ∀ a : List (Int × Int), a.length + ps.length ≤ 4000000 → Run (Turn1 K W (gName 2) (tbP K)) ds (encP d0 a) (.nx (encP d0 (accP a ps)))
  | _, _, .nil, a, _ => .nil
  | _, _, .lst (p := p) (ps := ps) h, a, hl => by
    rw [List.length_cons] at hl
    have hs : (stepP a p).length ≤ a.length + 1 := gput_length _ _ a
    exact .go (t1_name (body_poly d0 a p _ (ev_ixL (i := 0) (sl_d (ev_var rfl)) ev_int rfl) (ev_ixL (i := 1) (sl_d (ev_var rfl)) ev_int rfl) (by omega))) (run_poly d0 h (stepP a p) (by omega))
  | _, _, .tup (p := p) (ps := ps) h, a, hl => by
    rw [List.length_cons] at hl
    have hs : (stepP a p).length ≤ a.length + 1 := gput_length _ _ a
    exact .go (t1_name (body_poly d0 a p _ (ev_ixT (i := 0) (st_d (ds := [.int p.1, .int p.2]) (ev_var rfl)) ev_int rfl) (ev_ixT (i := 1) (st_d (ds := [.int p.1, .int p.2]) (ev_var rfl)) ev_int rfl) (by omega))) (run_poly d0 h (stepP a p) (by omega))
def keepI (a : List (Int × Int)) (ks : List Int) : List (Int × Int) := ks.filterMap fun k => if (gget a k).getD 0 ≠ 0 then some (k, (gget a k).getD 0) else none
theorem keepI_mem {a : List (Int × Int)} {ks : List Int} {k : Int} (h : k ∈ (keepI a ks).map (·.1)) : k ∈ ks := by
  obtain ⟨p, hp, rfl⟩ := List.mem_map.mp h
  obtain ⟨k', hk', e⟩ := List.mem_filterMap.mp hp
  by_cases z : (gget a k').getD 0 ≠ 0
  · rw [if_pos z] at e; cases e; exact hk'
  · rw [if_neg z] at e; cases e
def encP2 (d0 : D) (a b : List (Int × Int)) : List Sl := [.d d0, .ok (encI a), .no, .ok (encI b), .no]
theorem run_keepI (d0 : D) (a : List (Int × Int)) : ∀ (ks done : List Int), (done ++ ks).Nodup → (∀ k ∈ ks, k ∈ a.map (·.1)) → done.length + ks.length ≤ 4000000 →
    Run (Turn1 K W (gName 4) (tbS2 K)) (ks.map D.int) (encP2 d0 a (keepI a done)) (.nx (encP2 d0 a (keepI a (done ++ ks))))
  | [], done, _, _, _ => by rw [List.append_nil]; exact .nil
  | k :: ks, done, nd, hk, hl => by
    rw [List.length_cons] at hl
    have ih := run_keepI d0 a ks (done ++ [k]) (by rw [List.append_assoc]; exact nd) (fun x hx => hk x (List.mem_cons_of_mem _ hx)) (by rw [List.length_append, List.length_singleton]; omega)
    rw [List.append_assoc] at ih
    obtain ⟨v, hv⟩ := gget_some (hk k List.mem_cons_self)
    have hg : gget (encI a) (.inl k) = some (.int v) := by rw [gget_encI, hv]; rfl
    have hd : EvD K (tDGet (tVar 1) (tVar 4)) [.d d0, .ok (encI a), .no, .ok (encI (keepI a done)), .d (.int k)] (.int v) := ev_dgetK (k := .inl k) (dk_own rfl) (ev_var rfl) hg
    refine .go (t1_name (sv_nx (sv_if (b := !(v == 0)) (o := .nx [.d d0, .ok (encI a), .no, .ok (encI (keepI a (done ++ [k]))), .d (.int k)]) (tv_neI hd ev_int) (fun hb => ?_) fun hb => ?_) [4] rfl)) ih
    · have ne : v ≠ 0 := fun z => by rw [z] at hb; cases hb
      have hn : k ∉ (keepI a done).map (·.1) := fun z => by
        have h1 := keepI_mem z
        have h2 := (List.nodup_append.mp nd).2.2 k h1 k List.mem_cons_self
        exact h2 rfl
      have hlen : (keepI a done).length ≤ done.length := List.length_filterMap_le _ _
      have e1 : keepI a (done ++ [k]) = keepI a done ++ [(k, v)] := by
        unfold keepI
        rw [List.filterMap_append, List.filterMap_cons, List.filterMap_nil]
        have hv0 : (gget a k).getD 0 = v := by rw [hv]; rfl
        rw [hv0, if_pos ne]
      refine sv_to (sv_putK (k := .inl k) (d := .int v) rfl hd (ev_var rfl) (gputI_len (by omega))) ?_
      rw [gput_encI, gput_new hn, e1]; rfl
    · have e0 : v = 0 := by
        by_cases z : v = 0
        · exact z
        · rw [show (v == 0) = false from beq_eq_false_iff_ne.mpr z] at hb; cases hb
      have e1 : keepI a (done ++ [k]) = keepI a done := by
        unfold keepI
        rw [List.filterMap_append, List.filterMap_cons, List.filterMap_nil]
        have hv0 : (gget a k).getD 0 = v := by rw [hv]; rfl
        rw [hv0, if_neg (fun z => z e0), List.append_nil]
      rw [e1]
      exact sv_next
theorem sortD_ints (l : List Int) : sortD (l.map D.int) = (l.mergeSort leI).map D.int := by
  unfold sortD
  rw [List.map_mergeSort (s := PySem.W.dataLe false D.py)]
  intro a _ b _
  have := congrFun (congrFun (PySem.W.dataLe_int (fun i : Int => i)) a) b
  exact this.symm
theorem sortOk_ints {l : List Int} (h : l.length ≤ 16777216) : SortOk (l.map PyData.int) where
  al := fun d hd e he => by
    obtain ⟨a, _, rfl⟩ := List.mem_map.mp hd
    obtain ⟨b, _, rfl⟩ := List.mem_map.mp he
    rfl
  so := .inr fun d hd => by
    obtain ⟨a, _, rfl⟩ := List.mem_map.mp hd
    exact ⟨(fun z => nomatch z), fun xs z => nomatch z⟩
  dp := fun d hd => by
    obtain ⟨a, _, rfl⟩ := List.mem_map.mp hd
    exact (by decide : (PyData.int 0).depth ≤ 8)
  sz := by rw [List.length_map]; exact h
theorem ints_pl (l : List Int) : D.pls (l.map D.int) = true := by
  induction l with
  | nil => rfl
  | cons k l ih => show ((D.int k).pl && D.pls (l.map D.int)) = true; rw [ih]; rfl
theorem encI_keys (a : List (Int × Int)) : ((encI a).map fun kv => kD kv.1) = (a.map (·.1)).map D.int := by unfold encI; rw [List.map_map, List.map_map]; rfl
theorem pr_law_poly (W : WX) (ds : List D) (r : Res) (h : fr_law_poly ds r) : FnEnd K W (t_law_poly K W) (entry N_law_poly ds) r := by
  obtain ⟨d, ps, ⟨xs, hx, hd⟩, lp, rfl, rfl⟩ := h
  left
  show SvD K W (t_law_poly K W) [.d d, .no, .no, .no, .no] _
  have ha := accP_len ps []
  have e0 : (([] : List (Int × Int))).length = 0 := rfl
  rw [e0] at ha
  unfold t_law_poly
  refine sv_seq sv_asgDK (sv_seq (sv_for (wi_terms (ev_var rfl) hd) (run_poly d hx [] (by rw [e0]; omega))) (sv_seq sv_asgDK ?_))
  show SvD K W _ (encP2 d (accP [] ps) []) _
  have hk := evl_lstDK (K := K) (ρ := encP2 d (accP [] ps) []) (s := 1) (kvs := encI (accP [] ps)) rfl
  rw [encI_keys] at hk
  have hs := evl_sortL (sl_d (ev_of_L hk)) (ints_pl _) (by rw [List.map_map]; exact sortOk_ints (by rw [List.length_map]; omega))
  rw [sortD_ints] at hs
  have nd := accP_nodup ps [] List.nodup_nil
  have run := run_keepI (K := K) (W := W) d (accP [] ps) (((accP [] ps).map (·.1)).mergeSort leI) [] (by rw [List.nil_append]; exact (List.mergeSort_perm _ _).nodup_iff.mpr nd) (fun k hk => (List.mergeSort_perm _ _).mem_iff.mp hk) (by rw [List.length_mergeSort, List.length_map]; simp; omega)
  rw [List.nil_append] at run
  refine sv_seq (sv_for (wi_seqL (wi_list (ev_of_L hs))) run) ?_
  refine sv_frz (s := .ok (encI (polyM ps))) 3 rfl rfl (sv_retE (ev_var rfl) ?_)
  show D.dk ((encI (polyM ps)).map (·.1)) ((encI (polyM ps)).map (·.2)) = _
  unfold ePDict encI
  rw [List.map_map, List.map_map]; rfl
/-! ### bounds -/
theorem cf_bound {B : Nat} : ∀ {ts : List Tm}, Bd B ts → ∀ k, (cf ts k).natAbs ≤ ts.length * 2 ^ B
  | [], _, k => by simp [cf]
  | t :: ts, h, k => by
    have ih := cf_bound (ts := ts) (fun u hu => h u (List.mem_cons_of_mem _ hu)) k
    have h1 := h t List.mem_cons_self
    rw [List.length_cons, Nat.add_mul, Nat.one_mul]
    simp only [cf]
    by_cases e : t.k = k
    · rw [if_pos e]; omega
    · rw [if_neg e]; omega
theorem bd_ord {B C : Nat} {ts : List Tm} (h : Bd B ts) (hl : ts.length < 2 ^ C) : Bd (C + B) (ordM ts) := fun t ht => by
  have h1 := cf_bound h t.k
  rw [(ordM_mem.mp ht).1] at h1
  have h2 : ts.length * 2 ^ B < 2 ^ C * 2 ^ B := Nat.mul_lt_mul_of_pos_right hl (Nat.pow_pos (by decide))
  rw [← Nat.pow_add] at h2
  omega
theorem bd_mono {B C : Nat} {ts : List Tm} (h : Bd B ts) (hc : B ≤ C) : Bd C ts := fun t ht => Nat.lt_of_lt_of_le (h t ht) (Nat.pow_le_pow_right (by decide) hc)
def cp : List Pr → Int → Int
  | [], _ => 0
  | p :: ps, k => (if p.1 = k then p.2 else 0) + cp ps k
theorem accP_get : ∀ (ps : List Pr) (a : List (Int × Int)) (k : Int), (gget (accP a ps) k).getD 0 = (gget a k).getD 0 + cp ps k
  | [], a, k => by simp [accP, cp]
  | p :: ps, a, k => by
    show (gget (accP (stepP a p) ps) k).getD 0 = _
    rw [accP_get ps, stepP, gget_gput, cp]
    by_cases e : p.1 = k
    · rw [if_pos e, if_pos e, e]; simp only [Option.getD_some]; omega
    · rw [if_neg e, if_neg e]; omega
theorem cp_bound {B : Nat} : ∀ {ps : List Pr}, BdP B ps → ∀ k, (cp ps k).natAbs ≤ ps.length * 2 ^ B
  | [], _, k => by simp [cp]
  | t :: ts, h, k => by
    have ih := cp_bound (ps := ts) (fun u hu => h u (List.mem_cons_of_mem _ hu)) k
    have h1 := h t List.mem_cons_self
    rw [List.length_cons, Nat.add_mul, Nat.one_mul]
    simp only [cp]
    by_cases e : t.1 = k
    · rw [if_pos e]; omega
    · rw [if_neg e]; omega
theorem poly_at {ps : List Pr} {p : Pr} (h : p ∈ polyM ps) : p.2 = cp ps p.1 ∧ p.2 ≠ 0 := by
  obtain ⟨k, _, e⟩ := List.mem_filterMap.mp h
  have hg := accP_get ps [] k
  have h0 : (gget ([] : List (Int × Int)) k).getD 0 = 0 := rfl
  rw [h0, Int.zero_add] at hg
  by_cases z : (gget (accP [] ps) k).getD 0 ≠ 0
  · rw [if_pos z] at e; cases e; exact ⟨hg, z⟩
  · rw [if_neg z] at e; cases e
theorem bd_poly {B C : Nat} {ps : List Pr} (h : BdP B ps) (hl : ps.length < 2 ^ C) : BdP (C + B) (polyM ps) := fun p hp => by
  have h1 := cp_bound h p.1
  rw [← (poly_at hp).1] at h1
  have h2 : ps.length * 2 ^ B < 2 ^ C * 2 ^ B := Nat.mul_lt_mul_of_pos_right hl (Nat.pow_pos (by decide))
  rw [← Nat.pow_add] at h2
  omega
theorem len_poly (ps : List Pr) : (polyM ps).length ≤ ps.length := by
  unfold polyM
  refine Nat.le_trans (List.length_filterMap_le _ _) ?_
  rw [List.length_mergeSort, List.length_map]
  have := accP_len ps []
  simpa using this
theorem asc_poly (ps : List Pr) : (polyM ps).Pairwise (fun a b => a.1 < b.1) := by
  have h := List.pairwise_mergeSort (le := leI) (fun a b c h1 h2 => by unfold leI at *; simp only [decide_eq_true_eq] at *; omega) (fun a b => by unfold leI; simp only [Bool.or_eq_true, decide_eq_true_eq]; omega) ((accP [] ps).map (·.1))
  have nd' : (((accP [] ps).map (·.1)).mergeSort leI).Nodup := (List.mergeSort_perm _ _).nodup_iff.mpr (accP_nodup ps [] List.nodup_nil)
  have lt : (((accP [] ps).map (·.1)).mergeSort leI).Pairwise (· < ·) := List.Pairwise.imp₂ (fun a b h1 h2 => by unfold leI at h1; simp only [decide_eq_true_eq] at h1; omega) h nd'
  unfold polyM
  refine List.Pairwise.filterMap _ (fun k k' h t ht t' ht' => ?_) lt
  by_cases z : (gget (accP [] ps) k).getD 0 ≠ 0
  · rw [if_pos z] at ht
    by_cases z' : (gget (accP [] ps) k').getD 0 ≠ 0
    · rw [if_pos z'] at ht'; cases ht; cases ht'; exact h
    · rw [if_neg z'] at ht'; cases ht'
  · rw [if_neg z] at ht; cases ht
/-! ### _law_right -/
theorem ord_add (a b : List Tm) : ordM (ordM a ++ ordM b) = ordM (a ++ b) := ordM_eq fun k => by rw [cf_append, cf_append, ordM_cf, ordM_cf]
theorem ord_mul (ps : List Pr) (a : List Tm) : ordM (mulM (polyM ps) (ordM a)) = ordM (mulM ps a) := ordM_eq fun k => by rw [mul_poly]; exact mul_congr (ordM_cf a) k
theorem ord_mov (b : Int) (a : List Tm) : ordM (movM b (ordM a)) = ordM (movM b a) := ordM_eq fun k => by rw [cf_mov, cf_mov, ordM_cf]
theorem ord_back (b : Int) (a : List Tm) : ordM (movM (-b) (ordM (movM b a))) = ordM a := ordM_eq fun k => by
  rw [cf_mov, ordM_cf, cf_mov]
  show cf a (k.1, k.2 - -b - b) = _
  have : k.2 - -b - b = k.2 := by omega
  rw [this]
theorem isTerms_eTup (L : List Tm) : IsTerms (eTup L) L := ⟨_, isTms_T L, .inr rfl⟩
end
end Go
set_option Elab.async false
set_option linter.all false
set_option maxRecDepth 100000
set_option maxHeartbeats 1000000
namespace Go
open PySem PySem.Spec PyProof.Rows L2 DL
section
variable {K : PySem.W.Frag} {W : WX} {ρ : List Sl} {te : TE} {d : D}
/-! ### what is passed -/
theorem sv_ifEq {t v : TS} {o : Out} {i j : Int} {ta tb : TE} (ha : EvD K ta ρ (.int i)) (hb : EvD K tb ρ (.int j)) (hs : o.stops = true) (h1 : i = j → SvD K W t ρ o) (h2 : i ≠ j → SvD K W v ρ o) : SvD K W (tSeq (tIfS (tTest (tOp (rEqD K) ta tb)) t tNext) v) ρ o := by
  by_cases e : i = j
  · exact sv_stop (sv_ifT (tv_eq (tv_eqI ha hb) (by rw [e]; simp)) (h1 e)) hs
  · exact sv_seq (sv_ifF (tv_eq (tv_eqI ha hb) (by simpa using e)) sv_next) (h2 e)
theorem lc_map {ds : List D} {i : Nat} {xs : List D} {f : D → Option D} {g : TE} (hw : EvD K te ρ (.lst ds)) (hl : ds.length ≤ 16777215) (h : ∀ e ∈ ds, ∃ y, f e = some y ∧ EvD K g ((wipeS ρ [i]).set i (.d e)) y) (e : ds.filterMap f = xs) : EvD K (tLc (iSeq K te) (gName i) tYes g [i]) ρ (.lst xs) := by
  have hc := ev_lc (g := gName i) (tt := tYes) (te := g) (vs := [i]) (f := f) (wi_seqL (wi_list hw)) (fun a ha => by
    obtain ⟨y, h1, h2⟩ := h a ha
    exact ⟨[i], _, true, tg_name, by simp, tv_yes, fun _ => ⟨y, h1, h2⟩, fun z => nomatch z⟩) hl
  rw [e] at hc
  exact ev_of_L hc
def fPL : D → Option D
  | .lst [.int a, .int b] => some (pL (a, b))
  | _ => none
def fPT : D → Option D
  | .lst [.int a, .int b] => some (pT (a, b))
  | _ => none
theorem fPL_all (ps : List Pr) : (ps.map pL).filterMap fPL = ps.map pL := by rw [List.filterMap_map, ← filterMap_some]; rfl
theorem fPT_all (ps : List Pr) : (ps.map pL).filterMap fPT = ps.map pT := by rw [List.filterMap_map, ← filterMap_some]; rfl
theorem ev_pL {p : Pr} (h : EvD K te ρ (pL p)) : EvD K (tLst (tCons (tOp (rIxA K) te (tC (.int 0))) (tCons (tOp (rIxA K) te (tC (.int 1))) tNil))) ρ (pL p) := ev_of_L (evl_lst (av_cons (ev_ixL (i := 0) (sl_d h) ev_int rfl) (av_cons (ev_ixL (i := 1) (sl_d h) ev_int rfl) av_nil)) le2)
theorem ev_pT {p : Pr} (h : EvD K te ρ (pL p)) : EvD K (tTup (tCons (tOp (rIxA K) te (tC (.int 0))) (tCons (tOp (rIxA K) te (tC (.int 1))) tNil))) ρ (pT p) := ev_tup (av_cons (ev_ixL (i := 0) (sl_d h) ev_int rfl) (av_cons (ev_ixL (i := 1) (sl_d h) ev_int rfl) av_nil)) le2
def mixP1 : Nat → List Pr → List D
  | _, [] => []
  | n, p :: r => (if n = 1 ∨ n = 2 then pL p else pT p) :: mixP1 (n + 1) r
theorem mixP1_big : ∀ (r : List Pr) (n : Nat), 3 ≤ n → mixP1 n r = r.map pT
  | [], _, _ => rfl
  | p :: r, n, h => by
    rw [mixP1, if_neg (by omega), mixP1_big r (n + 1) (by omega)]; rfl
theorem mixP1_eq (ps : List Pr) : mixP1 0 ps = mixP ps := by
  unfold mixP
  split
  · show pT _ :: pL _ :: pL _ :: mixP1 3 _ = _
    rw [mixP1_big _ 3 (by omega)]
  · rfl
  · rfl
  · rfl
def encX (d0 : D) (f : Int) (done : List D) : List Sl := [.d d0, .d (.int f), .no, .ol done]
theorem pr_law_passed (W : WX) (ds : List D) (r : Res) (h : fr_law_passed ds r) : FnEnd K W (t_law_passed K W) (entry N_law_passed ds) r := by
  obtain ⟨ps, f, lp, rfl, rfl⟩ := h
  left
  show SvD K W (t_law_passed K W) [.d (.lst (ps.map pL)), .d (.int f), .no, .no] _
  have hl : (ps.map pL).length ≤ 16777215 := by rw [List.length_map]; omega
  have cL : EvD K (tLc (iSeq K (tVar 0)) (gName 2) tYes (tLst (tCons (tOp (rIxA K) (tVar 2) (tC (.int 0))) (tCons (tOp (rIxA K) (tVar 2) (tC (.int 1))) tNil))) [2]) [.d (.lst (ps.map pL)), .d (.int f), .no, .no] (.lst (ps.map pL)) := lc_map (f := fPL) (ev_var rfl) hl (fun e he => by
    obtain ⟨p, _, rfl⟩ := List.mem_map.mp he
    exact ⟨pL p, rfl, ev_pL (ev_var rfl)⟩) (fPL_all ps)
  have cT : EvD K (tLc (iSeq K (tVar 0)) (gName 2) tYes (tTup (tCons (tOp (rIxA K) (tVar 2) (tC (.int 0))) (tCons (tOp (rIxA K) (tVar 2) (tC (.int 1))) tNil))) [2]) [.d (.lst (ps.map pL)), .d (.int f), .no, .no] (.lst (ps.map pT)) := lc_map (f := fPT) (ev_var rfl) hl (fun e he => by
    obtain ⟨p, _, rfl⟩ := List.mem_map.mp he
    exact ⟨pT p, rfl, ev_pT (ev_var rfl)⟩) (fPT_all ps)
  unfold t_law_passed
  refine sv_ifEq (ev_var rfl) ev_int rfl (fun e => sv_retE cL (by subst e; rfl)) fun n0 => ?_
  refine sv_ifEq (ev_var rfl) ev_int rfl (fun e => sv_retE cT (by subst e; rfl)) fun n1 => ?_
  refine sv_ifEq (ev_var rfl) ev_int rfl (fun e => sv_retE (ev_tupL (sl_d cL)) (by subst e; rfl)) fun n2 => ?_
  refine sv_ifEq (ev_var rfl) ev_int rfl (fun e => sv_retE (ev_tupL (sl_d cT)) (by subst e; rfl)) fun n3 => ?_
  have run : ∀ (rs : List Pr) (done : List D), done.length + rs.length ≤ 1000 → Run (Turn1 K W (gName 2) (tIfS (tOr (tTest (tOp (rEqD K) (tCB (rLenA K) (tCons (tVar 3) tNil)) (tC (.int 1)))) (tTest (tOp (rEqD K) (tCB (rLenA K) (tCons (tVar 3) tNil)) (tC (.int 2))))) (tDrop (tBM K "list" rAppend (tVar 3) (tCons (tLst (tCons (tOp (rIxA K) (tVar 2) (tC (.int 0))) (tCons (tOp (rIxA K) (tVar 2) (tC (.int 1))) tNil))) tNil))) (tDrop (tBM K "list" rAppend (tVar 3) (tCons (tTup (tCons (tOp (rIxA K) (tVar 2) (tC (.int 0))) (tCons (tOp (rIxA K) (tVar 2) (tC (.int 1))) tNil))) tNil)))))
      (rs.map pL) (encX (.lst (ps.map pL)) f done) (.nx (encX (.lst (ps.map pL)) f (done ++ mixP1 done.length rs))) := by
    intro rs
    induction rs with
    | nil => intro done _; rw [mixP1, List.append_nil]; exact .nil
    | cons p rs ih =>
      intro done hl
      rw [List.length_cons] at hl
      have ih := ih (done ++ [if done.length = 1 ∨ done.length = 2 then pL p else pT p]) (by rw [List.length_append, List.length_singleton]; omega)
      rw [List.length_append, List.length_singleton, List.append_assoc] at ih
      have hln : EvD K (tCB (rLenA K) (tCons (tVar 3) tNil)) [.d (.lst (ps.map pL)), .d (.int f), .d (pL p), .ol done] (.int (done.length : Int)) := ev_lenL (sl_own rfl)
      refine .go (t1_name (sv_nx (ρ1 := [.d (.lst (ps.map pL)), .d (.int f), .d (pL p), .ol (done ++ [if done.length = 1 ∨ done.length = 2 then pL p else pT p])]) (sv_if (o := .nx _) (tv_or (tv_eqI hln ev_int) fun _ => tv_eqI hln ev_int) (fun hb => ?_) fun hb => ?_) [2] rfl)) ih
      · have hc : done.length = 1 ∨ done.length = 2 := by
          rw [Bool.or_eq_true, beq_iff_eq, beq_iff_eq] at hb
          omega
        rw [if_pos hc]
        exact sv_app (xs := done) rfl (ev_pL (ev_var rfl)) (by omega)
      · have hc : ¬ (done.length = 1 ∨ done.length = 2) := by
          rw [Bool.or_eq_false_iff, beq_eq_false_iff_ne, beq_eq_false_iff_ne] at hb
          omega
        rw [if_neg hc]
        exact sv_app (xs := done) rfl (ev_pT (ev_var rfl)) (by omega)
  have run0 := run ps [] (by simp; omega)
  refine sv_seq (sv_asgL (evl_lst (K := K) av_nil (by decide))) (sv_seq (sv_for (wi_seqL (wi_list (ev_var rfl))) run0) ?_)
  refine sv_frz 3 rfl rfl (sv_retE (ev_var rfl) ?_)
  show D.lst (mixP1 0 ps) = _
  unfold passP
  rw [mixP1_eq, if_neg n0, if_neg n1, if_neg n2, if_neg n3]
def fTL : D → Option D
  | .lst [.str r, .int a, .int b] => some (tL (r, a, b))
  | _ => none
def fTT : D → Option D
  | .lst [.str r, .int a, .int b] => some (tT (r, a, b))
  | _ => none
theorem fTL_all (ps : List Tm) : (ps.map tL).filterMap fTL = ps.map tL := by rw [List.filterMap_map, ← filterMap_some]; rfl
theorem fTT_all (ps : List Tm) : (ps.map tL).filterMap fTT = ps.map tT := by rw [List.filterMap_map, ← filterMap_some]; rfl
abbrev teL (K : PySem.W.Frag) (te : TE) : TE := tLst (tCons (tOp (rIxA K) te (tC (.int 0))) (tCons (tOp (rIxA K) te (tC (.int 1))) (tCons (tOp (rIxA K) te (tC (.int 2))) tNil)))
abbrev teT (K : PySem.W.Frag) (te : TE) : TE := tTup (tCons (tOp (rIxA K) te (tC (.int 0))) (tCons (tOp (rIxA K) te (tC (.int 1))) (tCons (tOp (rIxA K) te (tC (.int 2))) tNil)))
theorem ev_tL {p : Tm} (h : EvD K te ρ (tL p)) : EvD K (teL K te) ρ (tL p) := ev_of_L (evl_lst (av_cons (ev_it0 h (.inl rfl)) (av_cons (ev_it1 h (.inl rfl)) (av_cons (ev_it2 h (.inl rfl)) av_nil))) le3)
theorem ev_tT {p : Tm} (h : EvD K te ρ (tL p)) : EvD K (teT K te) ρ (tT p) := ev_tup (av_cons (ev_it0 h (.inl rfl)) (av_cons (ev_it1 h (.inl rfl)) (av_cons (ev_it2 h (.inl rfl)) av_nil))) le3
def mixT1 : Nat → List Tm → List D
  | _, [] => []
  | n, p :: r => (if n = 1 ∨ n = 2 then tL p else tT p) :: mixT1 (n + 1) r
theorem mixT1_big : ∀ (r : List Tm) (n : Nat), 3 ≤ n → mixT1 n r = r.map tT
  | [], _, _ => rfl
  | p :: r, n, h => by
    rw [mixT1, if_neg (by omega), mixT1_big r (n + 1) (by omega)]; rfl
theorem mixT1_eq (ps : List Tm) : mixT1 0 ps = mixT ps := by
  unfold mixT
  split
  · show tT _ :: tL _ :: tL _ :: mixT1 3 _ = _
    rw [mixT1_big _ 3 (by omega)]
  · rfl
  · rfl
  · rfl
/-! ### is it a sum, a polynomial -/
theorem ev_whole {i : Int} (h : EvD K te ρ (.int i)) : EvD K (tCallS (SpF K P_law_whole.length fr_law_whole) (WE W) (tCons te tNil)) ρ (.bl true) := ev_call (av_cons h av_nil) ⟨.int i, rfl, rfl, rfl⟩
theorem ev_isTup {ds : List D} (h : EvD K te ρ (.tup ds)) : EvD K (tCB (rIsi K) (tCons te (tCons (tC (.ty "tuple")) tNil))) ρ (.bl true) := ev_isi h rfl (kit_tuple rfl)
theorem ev_isStr {s : Str} (h : EvD K te ρ (.str s)) : EvD K (tCB (rIsi K) (tCons te (tCons (tC (.ty "str")) tNil))) ρ (.bl true) := ev_isi h rfl (kit_str rfl)
theorem run_same {step : D → List Sl → Out → Prop} : ∀ (ds : List D), (∀ d ∈ ds, step d ρ (.nx ρ)) → Run step ds ρ (.nx ρ)
  | [], _ => .nil
  | d :: ds, h => .go (h d List.mem_cons_self) (run_same ds fun e he => h e (List.mem_cons_of_mem _ he))
theorem rng_mem {lo : Int} {n : Nat} {d : D} (h : d ∈ rngD lo n) : ∃ i : Nat, i < n ∧ d = .int (lo + i) := by
  unfold rngD at h
  obtain ⟨i, hi, rfl⟩ := List.mem_map.mp h
  exact ⟨i, List.mem_range.mp hi, rfl⟩
theorem ev_isPo {P : List Pr} (hd : IsPoly d P) (h : EvD K te ρ d) : EvD K (tCB (rIsi K) (tCons te (tCons (tC (.ty "tuple")) tNil))) ρ (.bl true) := by
  rcases hd with rfl | rfl
  · exact ev_isi h rfl (kit_tuple rfl)
  · exact ev_isi h rfl (kit_tuple rfl)
theorem pr_law_is_poly (W : WX) (ds : List D) (r : Res) (h : fr_law_is_poly ds r) : FnEnd K W (t_law_is_poly K W) (entry N_law_is_poly ds) r := by
  obtain ⟨d, P, la, asc, hne, hd, rfl, rfl⟩ := h
  left
  show SvD K W (t_law_is_poly K W) [.d d, .no, .no] _
  unfold t_law_is_poly
  refine sv_notCall (ev_isPo hd (ev_var rfl)) (sv_seq (sv_for (wi_po hd (ev_var rfl)) (run_same (P.map pT) fun e he => ?_)) (sv_seq (sv_for (wi_rng2 (i := 1) (j := (P.map pT).length) (av_cons ev_int (av_cons (ev_lenT (st_po hd (ev_var rfl))) av_nil)) (by omega) (by rw [List.length_map]; omega)) (run_same _ fun e he => ?_)) (sv_ret ev_bl)))
  · obtain ⟨t, ht, rfl⟩ := List.mem_map.mp he
    have hv : EvD K (tVar 1) [.d d, .d (pT t), .no] (pT t) := ev_var rfl
    have hne := hne t ht
    have i0 : EvD K (tOp (rIxA K) (tVar 1) (tC (.int 0))) [.d d, .d (pT t), .no] (.int t.1) := ev_ixT (i := 0) (st_d hv) ev_int rfl
    have i1 : EvD K (tOp (rIxA K) (tVar 1) (tC (.int 1))) [.d d, .d (pT t), .no] (.int t.2) := ev_ixT (i := 1) (st_d hv) ev_int rfl
    refine t1_name (sv_nx (sv_seq (sv_ifF (tv_or (a := false) (b := false) (tv_not (tv_B (ev_isTup hv))) fun _ => tv_neI (i := 2) (j := 2) (ev_lenT (st_d hv)) ev_int) sv_next) (sv_ifF (tv_or (a := false) (b := false) (tv_not (tv_B (ev_whole i0))) fun _ => tv_or (a := false) (b := false) (tv_not (tv_B (ev_whole i1))) fun _ => tv_eq (tv_eqI i1 ev_int) (by simpa using hne)) sv_next)) [1] rfl)
  · obtain ⟨i, hi, rfl⟩ := rng_mem he
    have hi' : i + 1 < P.length := by rw [List.length_map] at hi; omega
    have e1 : P[i]? = some P[i] := List.getElem?_eq_getElem (by omega)
    have e2 : P[i + 1]? = some P[i + 1] := List.getElem?_eq_getElem hi'
    have h0 : EvST K (tVar 0) [.d d, .no, .d (.int (1 + (i : Int)))] (P.map pT) := st_po hd (ev_var rfl)
    have a1 : EvD K (tOp (rIxA K) (tVar 0) (tOp (rI0 fun i j => .int (i - j)) (tVar 2) (tC (.int 1)))) [.d d, .no, .d (.int (1 + (i : Int)))] (pT P[i]) := ev_ixT (i := (i : Int)) h0 (ev_eq (ev_subI (ev_var rfl) ev_int) (by congr 1; omega)) (atI_nat (by rw [List.getElem?_map, e1]; rfl))
    have a2 : EvD K (tOp (rIxA K) (tVar 0) (tVar 2)) [.d d, .no, .d (.int (1 + (i : Int)))] (pT P[i + 1]) := ev_ixT (i := ((i + 1 : Nat) : Int)) h0 (ev_eq (ev_var rfl) (by congr 1; omega)) (atI_nat (by rw [List.getElem?_map, e2]; rfl))
    have lt : P[i].1 < P[i + 1].1 := List.pairwise_iff_getElem.mp asc i (i + 1) (by omega) hi' (by omega)
    refine t1_name (sv_nx (sv_ifF (tv_eq (tv_cmpI (g := fun i j => decide (j ≤ i)) (i := P[i].1) (j := P[i + 1].1) (ev_ixT (i := 0) (st_d a1) ev_int rfl) (ev_ixT (i := 0) (st_d a2) ev_int rfl)) (by simp only [decide_eq_false_iff_not]; omega)) sv_next) [2] rfl)
end
end Go
set_option Elab.async false
set_option linter.all false
set_option maxRecDepth 100000
set_option maxHeartbeats 1000000
namespace Go
open PySem PySem.Spec PyProof.Rows L2 DL
section
variable {K : PySem.W.Frag} {W : WX} {ρ : List Sl} {te ta tb : TE} {d : D}
/-! ### _law_coefficient -/
theorem pr_law_coefficient (W : WX) (ds : List D) (r : Res) (h : fr_law_coefficient ds r) : FnEnd K W (t_law_coefficient K W) (entry N_law_coefficient ds) r := by
  obtain ⟨k, a, b, a0, a1, b0, b1, rfl, rfl⟩ := h
  left
  show SvD K W (t_law_coefficient K W) [.d (.int k), .d (.int a), .d (.int b)] _
  have va : EvD K (tCB rIntC (tCons (tVar 1) tNil)) [.d (.int k), .d (.int a), .d (.int b)] (.int a) := ev_intC (ev_var rfl)
  unfold t_law_coefficient
  refine sv_ifEq (ev_var rfl) ev_int rfl (fun e => sv_retE ev_int (by unfold coefM; rw [if_pos e])) fun n0 => ?_
  refine sv_ifLt (ev_var rfl) ev_int rfl (fun e => sv_retE (ev_subI (ev_modI va ev_int (by decide)) ev_int) (by unfold coefM; rw [if_neg n0, if_pos e])) fun n1 => ?_
  refine sv_ifEq (ev_var rfl) ev_int rfl (fun e => sv_retE (ev_nthI (l := [1, -1]) (sl_d (ev_of_L (evl_lst (av_cons ev_int (av_cons (ev_neg ev_int) av_nil)) le2))) (ev_modI va ev_int (by decide)) (by omega) (by show a % 2 < 2; omega)) ?_) fun n2 => ?_
  · unfold coefM
    rw [if_neg n0, if_neg n1, if_pos e]
    have h : a % 2 = 0 ∨ a % 2 = 1 := by omega
    rcases h with h | h <;> rw [h] <;> rfl
  refine sv_ifEq (ev_var rfl) ev_int rfl (fun e => sv_retE (ev_mulI ev_int (ev_subI (ev_modI va ev_int (by decide)) ev_int) (mul_s (by decide) (by omega))) (by unfold coefM; rw [if_neg n0, if_neg n1, if_neg n2, if_pos e])) fun n3 => ?_
  refine sv_ifEq (ev_var rfl) ev_int rfl (fun e => sv_retE (ev_subI (ev_modI va ev_int (by decide)) ev_int) (by unfold coefM; rw [if_neg n0, if_neg n1, if_neg n2, if_neg n3, if_pos e])) fun n4 => ?_
  refine sv_ifEq (ev_var rfl) ev_int rfl (fun e => sv_retE (ev_nthI (l := [1000000000, -1000000000, 999999999, -999999999, 999999937, -536870912]) (sl_d (ev_of_L (evl_lst (av_cons ev_p109 (av_cons (ev_neg ev_p109) (av_cons (ev_subI ev_p109 ev_int) (av_cons (ev_subI ev_int ev_p109) (av_cons ev_int (av_cons (ev_neg ev_int) av_nil)))))) (by decide)))) (ev_modI va ev_int (by decide)) (by omega) (by show a % 6 < 6; omega)) (by unfold coefM; rw [if_neg n0, if_neg n1, if_neg n2, if_neg n3, if_neg n4, if_pos e]; rfl)) fun n5 => ?_
  refine sv_ifEq (ev_var rfl) ev_int rfl (fun e => sv_retE (ev_subI (ev_modI (ev_intC (ev_addI (ev_var rfl) (ev_mulI ev_int (ev_var rfl) (mul_s (by decide) (by omega))))) ev_int (by decide)) ev_p109) (by unfold coefM; rw [if_neg n0, if_neg n1, if_neg n2, if_neg n3, if_neg n4, if_neg n5, if_pos e])) fun n6 => ?_
  refine sv_ifEq (ev_var rfl) ev_int rfl (fun e => sv_retE (ev_subI (ev_modI va ev_int (by decide)) ev_int) (by unfold coefM; rw [if_neg n0, if_neg n1, if_neg n2, if_neg n3, if_neg n4, if_neg n5, if_neg n6, if_pos e])) fun n7 => ?_
  exact sv_retE (ev_mulI ev_int (ev_subI (ev_modI va ev_int (by decide)) ev_int) (mul_s (by decide) (by omega))) (by unfold coefM; rw [if_neg n0, if_neg n1, if_neg n2, if_neg n3, if_neg n4, if_neg n5, if_neg n6, if_neg n7])
/-! ### raw terms -/
theorem szT_ok : ∀ s ∈ szT, 0 < s ∧ s < 1073741824 := by decide +kernel
theorem szN_ok : ∀ s ∈ szN, 0 < s ∧ s < 1073741824 := by decide +kernel
theorem szP_ok : ∀ s ∈ szP, 0 < s ∧ s < 1073741824 := by decide +kernel
end
end Go
set_option Elab.async false
set_option linter.all false
set_option maxRecDepth 100000
set_option maxHeartbeats 1000000
namespace Go
open PySem PySem.Spec PyProof.Rows L2 DL
section
variable {K : PySem.W.Frag} {W : WX} {ρ : List Sl} {te ta tb : TE} {d : D}
/-! ### pieces of a row -/
/-! ### drawn pairs -/
theorem manyP_bound {row : List Int} (h : rowOk szP row) : 0 ≤ manyP row ∧ manyP row ≤ 40 := by
  have h0 := row_at (k := 0) (s := 8) h (by decide +kernel)
  have h1 := row_at (k := 1) (s := 41) h (by decide +kernel)
  unfold manyP
  have t : ∀ n : Nat, n < 8 → nth [0, 1, 1, 2, 2, 2, 3, 3] n = 0 ∨ nth [0, 1, 1, 2, 2, 2, 3, 3] n = 1 ∨ nth [0, 1, 1, 2, 2, 2, 3, 3] n = 2 ∨ nth [0, 1, 1, 2, 2, 2, 3, 3] n = 3 := by decide
  rcases t (nth row 0).toNat (by omega) with e | e | e | e <;> rw [e]
  · show 0 ≤ nth row 1 ∧ nth row 1 ≤ 40; omega
  · show 0 ≤ nth row 1 % 9 ∧ nth row 1 % 9 ≤ 40; omega
  · show 0 ≤ nth row 1 % 5 ∧ nth row 1 % 5 ≤ 40; omega
  · show (0 : Int) ≤ 1 ∧ (1 : Int) ≤ 40; omega
def pairAt (row : List Int) (k : Nat) : Pr := ((nth row 2 + nth row (4 + 4 * k) % nth [2, 3, 5, 41] (nth row 3).toNat) % 41 - 20, coefM (nth row (4 + 4 * k + 1)) (nth row (4 + 4 * k + 2)) (nth row (4 + 4 * k + 3)))
def encG (c : Int) (row : List Int) (many : Int) (k : Nat) : List Sl := [.d (.int c), .d (.lst (row.map D.int)), .d (.int many), .ol (((List.range k).map (pairAt row)).map pL), .no, .no, .no]
end
end Go
set_option Elab.async false
set_option linter.all false
set_option maxRecDepth 100000
set_option maxHeartbeats 1000000
namespace Go
open PySem PySem.Spec PyProof.Rows L2 DL
section
variable {K : PySem.W.Frag} {W : WX} {ρ : List Sl} {te ta tb : TE} {d : D}
/-! ### drawn terms -/
theorem manyT_bound {row : List Int} (h : rowOk szT row) : 0 ≤ manyT row ∧ manyT row ≤ 60 := by
  have h0 := row_at (k := 0) (s := 12) h (by decide +kernel)
  have h1 := row_at (k := 1) (s := 61) h (by decide +kernel)
  unfold manyT
  have t : ∀ n : Nat, n < 12 → nth [0, 1, 2, 2, 2, 3, 3, 3, 3, 3, 3, 4] n = 0 ∨ nth [0, 1, 2, 2, 2, 3, 3, 3, 3, 3, 3, 4] n = 1 ∨ nth [0, 1, 2, 2, 2, 3, 3, 3, 3, 3, 3, 4] n = 2 ∨ nth [0, 1, 2, 2, 2, 3, 3, 3, 3, 3, 3, 4] n = 3 ∨ nth [0, 1, 2, 2, 2, 3, 3, 3, 3, 3, 3, 4] n = 4 := by decide
  show 0 ≤ nth [nth row 1, 60, nth row 1 % 17, 2 + nth row 1 % 9, nth row 1 % 3] _ ∧ _
  rcases t (nth row 0).toNat (by omega) with e | e | e | e | e <;> rw [e]
  · show 0 ≤ nth row 1 ∧ nth row 1 ≤ 60; omega
  · show (0 : Int) ≤ 60 ∧ (60 : Int) ≤ 60; omega
  · show 0 ≤ nth row 1 % 17 ∧ nth row 1 % 17 ≤ 60; omega
  · show 0 ≤ 2 + nth row 1 % 9 ∧ 2 + nth row 1 % 9 ≤ 60; omega
  · show 0 ≤ nth row 1 % 3 ∧ nth row 1 % 3 ≤ 60; omega
def wideT (row : List Int) : Int := nth [2, 3, 4, 5, 6, 8, 1, 41] (nth row 3).toNat
def termAt (ns : List Str) (row : List Int) (k : Nat) : Tm :=
  (ns.getD (nth row (7 + 5 * k) % (1 + nth row 6)).toNat "", (nth row 2 + nth row (7 + 5 * k + 1) % wideT row) % 41 - 20, coefM (nth row (7 + 5 * k + 2)) (nth row (7 + 5 * k + 3)) (nth row (7 + 5 * k + 4)))
theorem baseT_eq (ns : List Str) (row : List Int) : baseT ns row = (List.range (manyT row).toNat).map (termAt ns row) := by
  unfold baseT termAt wideT
  refine List.map_congr_left fun k _ => ?_
  rw [show 8 + 5 * k = 7 + 5 * k + 1 from by omega, show 9 + 5 * k = 7 + 5 * k + 2 from by omega, show 10 + 5 * k = 7 + 5 * k + 3 from by omega, show 11 + 5 * k = 7 + 5 * k + 4 from by omega]
def menuT (row : List Int) : List Int := [nth row 1, 60, nth row 1 % 17, 2 + nth row 1 % 9, nth row 1 % 3]
def encH (ns : List Str) (row : List Int) (k : Nat) : List Sl := [.d (.lst (ns.map D.str)), .d (.lst (row.map D.int)), .ol ((menuT row).map D.int), .d (.int (manyT row)), .d (.int (wideT row)), .ol (((List.range k).map (termAt ns row)).map tL), .no, .no, .no, .no, .no, .no]
def fNg : D → Option D
  | .lst [.str r, .int a, .int b] => some (tL (r, a, -b))
  | _ => none
def fSc (f : Int) : D → Option D
  | .lst [.str r, .int a, .int b] => some (tL (r, a, b * f))
  | _ => none
def fAb (f : Int) : D → Option D
  | .lst [.str _, .int _, .int b] => some (.int (if b * f < 0 then -(b * f) else b * f))
  | _ => none
theorem fNg_all (ts : List Tm) : (ts.map tL).filterMap fNg = (negT ts).map tL := by unfold negT; rw [List.filterMap_map, List.map_map, ← filterMap_some]; rfl
theorem fSc_all (f : Int) (ts : List Tm) : (ts.map tL).filterMap (fSc f) = (sclT f ts).map tL := by unfold sclT; rw [List.filterMap_map, List.map_map, ← filterMap_some]; rfl
theorem fAb_all (f : Int) (ts : List Tm) : (ts.map tL).filterMap (fAb f) = (ts.map fun t => if t.2.2 * f < 0 then -(t.2.2 * f) else t.2.2 * f).map D.int := by rw [List.filterMap_map, List.map_map, ← filterMap_some]; rfl
theorem ev_tNg {p : Tm} (h : EvD K te ρ (tL p)) : EvD K (tLst (tCons (tOp (rIxA K) te (tC (.int 0))) (tCons (tOp (rIxA K) te (tC (.int 1))) (tCons (tUn (rU fun i => .int (-i)) (tOp (rIxA K) te (tC (.int 2)))) tNil)))) ρ (tL (p.1, p.2.1, -p.2.2)) := ev_of_L (evl_lst (av_cons (ev_it0 (t := p) h (.inl rfl)) (av_cons (ev_it1 (t := p) h (.inl rfl)) (av_cons (ev_neg (ev_it2 (t := p) h (.inl rfl))) av_nil))) le3)
end
end Go
set_option Elab.async false
set_option linter.all false
set_option maxRecDepth 100000
set_option maxHeartbeats 1000000
namespace Go
open PySem PySem.Spec PyProof.Rows L2 DL
section
variable {K : PySem.W.Frag} {W : WX} {ρ : List Sl} {te ta tb : TE} {d : D}
/-! ### other terms -/
def fHv : D → Option D
  | .lst [.str r, .int a, .int b] => some (tL (r, a, b / 2))
  | _ => none
def fRs : D → Option D
  | .lst [.str r, .int a, .int b] => some (tL (r, a, b - b / 2))
  | _ => none
theorem fHv_all (ts : List Tm) : (ts.map tL).filterMap fHv = (ts.map fun t => (t.1, t.2.1, t.2.2 / 2)).map tL := by rw [List.filterMap_map, List.map_map, ← filterMap_some]; rfl
theorem fRs_all (ts : List Tm) : (ts.map tL).filterMap fRs = (ts.map fun t => (t.1, t.2.1, t.2.2 - t.2.2 / 2)).map tL := by rw [List.filterMap_map, List.map_map, ← filterMap_some]; rfl
def fBk (ts : List Tm) : D → Option D
  | .int k => some (tL (ts.getD (ts.length - 1 - k.toNat) ("", 0, 0)))
  | _ => none
theorem fBk_all (ts : List Tm) : (rngD 0 ts.length).filterMap (fBk ts) = ts.reverse.map tL := by
  unfold rngD
  rw [List.filterMap_map]
  have : (fBk ts ∘ fun (i : Nat) => D.int (0 + (i : Int))) = fun i : Nat => some (tL (ts.getD (ts.length - 1 - i) ("", 0, 0))) := by
    funext i
    show some (tL (ts.getD (ts.length - 1 - (0 + (i : Int)).toNat) ("", 0, 0))) = _
    rw [show (0 + (i : Int)).toNat = i from by omega]
  rw [this, filterMap_some]
  apply List.ext_getElem
  · simp
  · intro i h1 h2
    simp at h1 h2
    simp only [List.getElem_map, List.getElem_range, List.getElem_reverse]
    rw [List.getD_eq_getElem?_getD, List.getElem?_eq_getElem (by omega)]; rfl
/-! ### names -/
def nameAt (row : List Int) (k : Nat) : Str := cutS (fullM row k) none (some (1 + nth row (1 + 11 * k)))
theorem ev_sign {i : Int} (h : EvD K te ρ (.str signs)) (hb : EvD K tb ρ (.int i)) (h0 : 0 ≤ i) (h1 : i < 36) : EvD K (tOp (rIxA K) te tb) ρ (.str (signAt i)) := by
  have ls : signs.cps.toList.length = 36 := by decide +kernel
  have hi : i.toNat < signs.cps.toList.length := by omega
  refine ev_ixS (i := i) h hb (by decide +kernel) ?_
  have e : i = (i.toNat : Int) := by omega
  rw [e]
  refine atI_nat ?_
  rw [List.getD_eq_getElem?_getD, show ((i.toNat : Int)).toNat = i.toNat from rfl, List.getElem?_eq_getElem hi]; rfl
theorem len_sign (i : Int) : (signAt i).length = 1 := rfl
theorem len_join (l : List Str) (h : ∀ s ∈ l, s.length = 1) : (Txt.join "" l).length = l.length := by
  have e := PySem.size_glued "" l
  show (PySem.Builtin.Str.glued "" l).length = _
  rw [e]
  have e2 : (l.map (·.length)).sum = l.length := by
    clear e
    induction l with
    | nil => rfl
    | cons s l ih => rw [List.map_cons, List.sum_cons, h s List.mem_cons_self, ih fun x hx => h x (List.mem_cons_of_mem _ hx), List.length_cons]; omega
  rw [e2]
  show l.length + (l.length - 1) * 0 = _
  omega
def fullAt (row : List Int) (k : Nat) : Str := signAt (nth row (1 + 11 * k + 1)) ++ Txt.join "" ((List.range 9).map fun j => signAt (nth row (1 + 11 * k + (2 + j))))
theorem fullM_eq (row : List Int) (k : Nat) : fullM row k = fullAt row k := by
  unfold fullM fullAt
  rw [show 2 + 11 * k = 1 + 11 * k + 1 from by omega]
  congr 2
  refine List.map_congr_left fun j _ => ?_
  rw [show 3 + 11 * k + j = 1 + 11 * k + (2 + j) from by omega]
theorem len_joinAt (row : List Int) (k : Nat) : (Txt.join "" ((List.range 9).map fun j => signAt (nth row (1 + 11 * k + (2 + j))))).length = 9 := by
  rw [len_join _ fun s hs => by
    obtain ⟨j, _, rfl⟩ := List.mem_map.mp hs
    rfl]
  simp
theorem len_app (a b : Str) : (a ++ b).length = a.length + b.length := by
  show (a.cps ++ b.cps).size = a.cps.size + b.cps.size
  exact Array.size_append
theorem len_fullAt (row : List Int) (k : Nat) : (fullAt row k).length = 10 := by
  unfold fullAt
  rw [len_app, len_joinAt]; rfl
def fJn (row : List Int) (k : Nat) : D → Option D
  | .int j => some (.str (signAt (nth row (1 + 11 * k + (2 + j.toNat)))))
  | _ => none
theorem fJn_all (row : List Int) (k : Nat) : (rngD 0 9).filterMap (fJn row k) = ((List.range 9).map fun j => signAt (nth row (1 + 11 * k + (2 + j)))).map D.str := by
  unfold rngD
  rw [List.filterMap_map, List.map_map, ← filterMap_some]
  refine fm_congr fun i _ => ?_
  show some (D.str (signAt (nth row (1 + 11 * k + (2 + (0 + (i : Int)).toNat))))) = _
  rw [show (0 + (i : Int)).toNat = i from by omega]; rfl
def menusD : List D := menusM.map fun l => .lst (l.map D.str)
def encN (c : Int) (row : List Int) (k : Nat) : List Sl := [.d (.int c), .d (.lst (row.map D.int)), .d (.str signs), .ol menusD, .ol (((List.range k).map fun k => cutS (fullAt row k) none (some (1 + nth row (1 + 11 * k)))).map D.str), .no, .no, .no, .no]
end
end Go
set_option Elab.async false
set_option linter.all false
set_option maxRecDepth 100000
set_option maxHeartbeats 1000000
namespace Go
open PySem PySem.Spec PyProof.Rows L2 DL
section
variable {K : PySem.W.Frag} {W : WX} {ρ : List Sl} {te ta tb : TE} {d : D}
/-! ### _law_alone -/
/-- the rows met so far -/
def rowStep (acc : List Str) (t : Tm) : List Str := if acc = [] ∨ acc.getLast? ≠ some t.1 then acc ++ [t.1] else acc
def rowsF (ts : List Tm) : List Str := ts.foldl rowStep []
theorem rowsM_head : ∀ (t : Tm) (ts : List Tm), ∃ rs, rowsM (t :: ts) = t.1 :: rs
  | t, [] => ⟨[], rfl⟩
  | t, u :: ts => by
    obtain ⟨rs, e⟩ := rowsM_head u ts
    unfold rowsM
    rw [e]
    by_cases h : t.1 = u.1
    · simp only; rw [if_pos h, h]; exact ⟨rs, rfl⟩
    · simp only; rw [if_neg h]; exact ⟨_, rfl⟩
theorem rowsF_from : ∀ (ts : List Tm) (acc : List Str) (r : Str), ts.foldl rowStep (acc ++ [r]) = match rowsM ts with
    | [] => acc ++ [r]
    | s :: rs => if s = r then acc ++ [r] ++ rs else acc ++ [r] ++ s :: rs
  | [], acc, r => rfl
  | t :: ts, acc, r => by
    rw [List.foldl_cons]
    have hs : rowStep (acc ++ [r]) t = if t.1 = r then acc ++ [r] else acc ++ [r] ++ [t.1] := by
      unfold rowStep
      by_cases e : t.1 = r
      · rw [if_pos e, if_neg]
        rintro (h | h)
        · simp at h
        · apply h; rw [e]; simp
      · rw [if_neg e, if_pos]
        right
        simp only [List.getLast?_append, List.getLast?_singleton, Option.some_or]
        intro z; exact e (Option.some.inj z).symm
    rw [hs]
    cases hr : rowsM ts with
    | nil =>
      have e1 : rowsM (t :: ts) = [t.1] := by unfold rowsM; rw [hr]
      rw [e1]
      by_cases e : t.1 = r
      · rw [if_pos e, rowsF_from ts acc r, hr]; simp only; rw [if_pos e, List.append_nil]
      · rw [if_neg e, rowsF_from ts (acc ++ [r]) t.1, hr]; simp only; rw [if_neg e]
    | cons s rs =>
      have e1 : rowsM (t :: ts) = if t.1 = s then s :: rs else t.1 :: s :: rs := by
        conv => lhs; unfold rowsM
        rw [hr]
      rw [e1]
      by_cases e : t.1 = r
      · rw [if_pos e, rowsF_from ts acc r, hr]
        by_cases e2 : t.1 = s
        · rw [if_pos e2]
        · rw [if_neg e2]; simp only; rw [if_pos e, if_neg (fun z => e2 (e.trans z.symm))]
      · rw [if_neg e, rowsF_from ts (acc ++ [r]) t.1, hr]
        by_cases e2 : t.1 = s
        · rw [if_pos e2]; simp only; rw [if_pos e2.symm, if_neg (fun z => e (e2.trans z))]; rw [e2]; simp
        · rw [if_neg e2]; simp only; rw [if_neg (fun z => e2 z.symm), if_neg e]; simp
theorem rowsF_eq (ts : List Tm) : rowsF ts = rowsM ts := by
  cases ts with
  | nil => rfl
  | cons t ts =>
    unfold rowsF
    rw [List.foldl_cons]
    have h0 : rowStep [] t = [] ++ [t.1] := by unfold rowStep; rw [if_pos (.inl rfl)]
    rw [h0, rowsF_from ts [] t.1]
    cases hr : rowsM ts with
    | nil => unfold rowsM; rw [hr]; rfl
    | cons s rs =>
      conv => rhs; unfold rowsM
      rw [hr]
      simp only [List.nil_append]
      by_cases e : s = t.1
      · rw [if_pos e, if_pos e.symm, e]; rfl
      · rw [if_neg e, if_neg (fun z => e z.symm)]; rfl
theorem rowsM_names : ∀ {ts : List Tm} {s : Str}, s ∈ rowsM ts → ∃ t ∈ ts, t.1 = s
  | t :: ts, s, h => by
    unfold rowsM at h
    cases hr : rowsM ts with
    | nil =>
      rw [hr] at h
      rcases List.mem_cons.mp h with e | e
      · exact ⟨t, List.mem_cons_self, e.symm⟩
      · cases e
    | cons r rs =>
      rw [hr] at h
      simp only at h
      have hrec : s ∈ r :: rs → ∃ t' ∈ t :: ts, t'.1 = s := fun z => by
        obtain ⟨u, hu, e⟩ := rowsM_names (ts := ts) (s := s) (by rw [hr]; exact z)
        exact ⟨u, List.mem_cons_of_mem _ hu, e⟩
      by_cases e : t.1 = r
      · rw [if_pos e] at h; exact hrec h
      · rw [if_neg e] at h
        rcases List.mem_cons.mp h with z | z
        · exact ⟨t, List.mem_cons_self, z.symm⟩
        · exact hrec z
def encA0 (d : D) (L : List Tm) (ns : List Str) (acc : List Str) : List Sl := [.d d, .d (eDict L), .d (.lst (ns.map D.str)), .ol (acc.map D.str), .no, .no, .no, .no]
abbrev tbR (K : PySem.W.Frag) : TS := tIfS (tOr (tTest (tOp (rEqD K) (tCB (rLenA K) (tCons (tVar 3) tNil)) (tC (.int 0)))) (tTest (tOp (rNeD K) (tOp (rIxA K) (tVar 3) (tUn (rU fun i => .int (-i)) (tC (.int 1)))) (tOp (rIxA K) (tVar 4) (tC (.int 0)))))) (tDrop (tBM K "list" rAppend (tVar 3) (tCons (tOp (rIxA K) (tVar 4) (tC (.int 0))) tNil))) tNext
theorem atI_last {α : Type} {l : List α} {a : α} : atI (l ++ [a]) (-1) = some a := by
  unfold atI
  have : ixN (l ++ [a]).length (-1) = some l.length := by
    unfold ixN
    rw [List.length_append, List.length_singleton, if_neg (by decide), if_pos (by omega)]
    congr 1
    omega
  rw [this]
  simp
theorem run_rows (d : D) (L : List Tm) (ns : List Str) : ∀ (ts : List Tm) (acc : List Str), NOk ts → (∀ s ∈ acc, PyData.strOk s = true) → acc.length + ts.length ≤ 4000000 → Run (Turn1 K W (gName 4) (tbR K)) ((ts.map Tm.k).map tupK) (encA0 d L ns acc) (.nx (encA0 d L ns (ts.foldl rowStep acc)))
  | [], acc, _, _, _ => .nil
  | t :: ts, acc, ok, oka, hl => by
    rw [List.length_cons] at hl
    have okt := ok t List.mem_cons_self
    have hs : (rowStep acc t).length ≤ acc.length + 1 := by unfold rowStep; split <;> simp
    have oks : ∀ s ∈ rowStep acc t, PyData.strOk s = true := fun s h => by
      unfold rowStep at h
      split at h
      · rcases List.mem_append.mp h with z | z
        · exact oka s z
        · rw [List.mem_singleton.mp z]; exact okt
      · exact oka s h
    have ih := run_rows d L ns ts (rowStep acc t) (fun u hu => ok u (List.mem_cons_of_mem _ hu)) oks (by omega)
    have h4 : EvD K (tOp (rIxA K) (tVar 4) (tC (.int 0))) ((encA0 d L ns acc).set 4 (.d (tupK t.k))) (.str t.1) := ev_ixT (i := 0) (st_d (ev_var rfl)) ev_int rfl
    have hlen : EvD K (tCB (rLenA K) (tCons (tVar 3) tNil)) ((encA0 d L ns acc).set 4 (.d (tupK t.k))) (.int ((acc.map D.str).length : Int)) := ev_lenL (sl_own rfl)
    rw [List.length_map] at hlen
    have app : SvD K W (tDrop (tBM K "list" rAppend (tVar 3) (tCons (tOp (rIxA K) (tVar 4) (tC (.int 0))) tNil))) ((encA0 d L ns acc).set 4 (.d (tupK t.k))) (.nx (((encA0 d L ns acc).set 4 (.d (tupK t.k))).set 3 (.ol (acc.map D.str ++ [.str t.1])))) := sv_app (xs := acc.map D.str) rfl h4 (by rw [List.length_map]; omega)
    have fin : acc = [] ∨ acc.getLast? ≠ some t.1 → wipeS (((encA0 d L ns acc).set 4 (.d (tupK t.k))).set 3 (.ol (acc.map D.str ++ [.str t.1]))) [4] = encA0 d L ns (rowStep acc t) := fun h => by
      unfold rowStep
      rw [if_pos h]
      unfold encA0
      rw [List.map_append]; rfl
    by_cases he : acc = []
    · exact .go (t1_name (sv_nx (sv_ifT (tv_or (a := true) (b := true) (tv_eq (tv_eqI hlen ev_int) (by rw [he]; rfl)) (fun z => nomatch z)) app) [4] (fin (.inl he)))) ih
    · obtain ⟨l, a, e⟩ : ∃ l a, acc = l ++ [a] := ⟨acc.dropLast, acc.getLast he, (List.dropLast_concat_getLast he).symm⟩
      have h3 : EvD K (tOp (rIxA K) (tVar 3) (tUn (rU fun i => .int (-i)) (tC (.int 1)))) ((encA0 d L ns acc).set 4 (.d (tupK t.k))) (.str a) := ev_ixL (i := -1) (sl_own rfl) (ev_neg ev_int) (by rw [e, List.map_append]; exact atI_last)
      have oa : PyData.strOk a = true := oka a (by rw [e]; simp)
      have hn0 : ((acc.length : Int) == 0) = false := by
        rw [beq_eq_false_iff_ne, e, List.length_append, List.length_singleton]; omega
      have tt := tv_or (tu := tTest (tOp (rNeD K) (tOp (rIxA K) (tVar 3) (tUn (rU fun i => .int (-i)) (tC (.int 1)))) (tOp (rIxA K) (tVar 4) (tC (.int 0))))) (b := !PyData.eqv (D.str a).py (D.str t.1).py) (tv_eq (tv_eqI hlen ev_int) hn0) fun _ => tv_neD h3 h4 ((Sh.str oa).ok (by decide)) ((Sh.str okt).ok (by decide))
      have ev : PyData.eqv (D.str a).py (D.str t.1).py = (a == t.1) := rfl
      rw [ev, Bool.false_or] at tt
      have gl : acc.getLast? = some a := by rw [e]; simp
      by_cases hc : a = t.1
      · have e2 : rowStep acc t = acc := by
          unfold rowStep
          rw [if_neg]
          rintro (z | z)
          · exact he z
          · rw [gl, hc] at z; exact z rfl
        rw [e2] at ih
        rw [List.foldl_cons, e2]
        exact .go (t1_name (sv_nx (sv_ifF (tv_eq tt (by rw [hc]; simp)) sv_next) [4] rfl)) ih
      · exact .go (t1_name (sv_nx (sv_ifT (tv_eq tt (by simpa using hc)) app) [4] (fin (.inr (by rw [gl]; exact fun z => hc (Option.some.inj z)))))) ih
def fPt (a : List (Kk × Int)) (n : Str) : D → Option D
  | .tup [.str r, .int s] => if r = n then some (pT (s, (gget a (r, s)).getD 0)) else none
  | _ => none
theorem part_asc {L : List Tm} (h : Can L) (n : Str) : (partM L n).Pairwise (fun a b => a.1 < b.1) := by
  unfold partM
  refine List.Pairwise.filterMap _ (fun t u hlt p hp q hq => ?_) h.lt
  by_cases e1 : t.1 = n
  · rw [if_pos e1] at hp
    by_cases e2 : u.1 = n
    · rw [if_pos e2] at hq
      cases hp; cases hq
      unfold ltT ltK at hlt
      rw [if_pos (show (Tm.k t).1 = (Tm.k u).1 from e1.trans e2.symm)] at hlt
      exact of_decide_eq_true hlt
    · rw [if_neg e2] at hq; cases hq
  · rw [if_neg e1] at hp; cases hp
theorem part_ne {L : List Tm} (h : Can L) (n : Str) : ∀ p ∈ partM L n, p.2 ≠ 0 := fun p hp => by
  obtain ⟨t, ht, e⟩ := List.mem_filterMap.mp hp
  by_cases e1 : t.1 = n
  · rw [if_pos e1] at e; cases e; exact h.ne t ht
  · rw [if_neg e1] at e; cases e
theorem sh_strs {l : List Str} (h : ∀ s ∈ l, PyData.strOk s = true) : Sh 2 (.lst (l.map D.str)) := Sh.lst fun d hd => by
  obtain ⟨s, hs, rfl⟩ := List.mem_map.mp hd
  exact .str (h s hs)
end
end Go
set_option Elab.async false
set_option linter.all false
set_option maxRecDepth 100000
set_option maxHeartbeats 1000000
namespace Go
open PySem PySem.Spec PyProof.Rows L2 DL
/-! ### names are good -/
theorem ok_iff (s : Str) : PyData.strOk s = true ↔ ∀ c ∈ s.cps.toList, c < 0x110000 := by
  unfold PyData.strOk
  rw [← Array.all_toList, List.all_eq_true]
  simp
theorem ok_app {a b : Str} (ha : PyData.strOk a = true) (hb : PyData.strOk b = true) : PyData.strOk (a ++ b) = true := by
  rw [ok_iff] at *
  intro c hc
  have : (a ++ b).cps.toList = a.cps.toList ++ b.cps.toList := by
    show (a.cps ++ b.cps).toList = _
    exact Array.toList_append
  rw [this] at hc
  rcases List.mem_append.mp hc with h | h
  · exact ha c h
  · exact hb c h
theorem ok_join {l : List Str} (h : ∀ s ∈ l, PyData.strOk s = true) : PyData.strOk (Txt.join "" l) = true := by
  rw [ok_iff]
  show ∀ c ∈ ((l.drop 1).foldl (fun acc p => acc ++ ("" : Str).cps ++ p.cps) (l.headD Str.empty).cps).toList, c < 0x110000
  have step : ∀ (r : List Str) (acc : Array Nat), (∀ s ∈ r, PyData.strOk s = true) → (∀ c ∈ acc.toList, c < 0x110000) → ∀ c ∈ (r.foldl (fun acc p => acc ++ ("" : Str).cps ++ p.cps) acc).toList, c < 0x110000 := by
    intro r
    induction r with
    | nil => intro acc _ h; exact h
    | cons p r ih =>
      intro acc hr ha
      rw [List.foldl_cons]
      refine ih _ (fun s hs => hr s (List.mem_cons_of_mem _ hs)) fun c hc => ?_
      rw [Array.toList_append, Array.toList_append] at hc
      rcases List.mem_append.mp hc with z | z
      · rcases List.mem_append.mp z with z | z
        · exact ha c z
        · cases z
      · exact (ok_iff p).mp (hr p List.mem_cons_self) c z
  cases l with
  | nil => intro c hc; cases hc
  | cons p r => exact step r _ (fun s hs => h s (List.mem_cons_of_mem _ hs)) ((ok_iff p).mp (h p List.mem_cons_self))
theorem ok_cut {s : Str} (h : PyData.strOk s = true) (lo hi : Option Int) : PyData.strOk (cutS s lo hi) = true := by
  rw [ok_iff] at *
  intro c hc
  exact h c (List.mem_of_mem_drop (List.mem_of_mem_take hc))
theorem ok_sign (i : Int) : PyData.strOk (signAt i) = true := by
  rw [ok_iff]
  intro c hc
  have e : c = (signs.cps.toList).getD i.toNat 0 := by
    have : c ∈ [(signs.cps.toList).getD i.toNat 0] := hc
    simpa using this
  have all : ∀ x ∈ 0 :: signs.cps.toList, x < 0x110000 := by decide +kernel
  refine all c ?_
  rw [e, List.getD_eq_getElem?_getD]
  cases h : signs.cps.toList[i.toNat]? with
  | none => exact List.mem_cons_self
  | some v => exact List.mem_cons_of_mem _ (List.mem_of_getElem? h)
theorem namesM_ok (c : Int) : (namesM c).length = 6 ∧ ∀ n ∈ namesM c, PyData.strOk n = true := by
  have hr : rowOk szN (digM c szN) := rowOk_dig c fun s hs => (szN_ok s hs).1
  have r0 := row_at (k := 0) (s := 7) hr (by decide +kernel)
  unfold namesM
  simp only
  by_cases h : nth (digM c szN) 0 < 5
  · rw [if_pos h]
    have : ∀ n : Nat, n < 5 → (menusM.getD n []).length = 6 ∧ ∀ s ∈ menusM.getD n [], PyData.strOk s = true := by decide +kernel
    exact this _ (by omega)
  · rw [if_neg h]
    refine ⟨by simp, fun n hn => ?_⟩
    obtain ⟨k, _, rfl⟩ := List.mem_map.mp hn
    refine ok_cut ?_ _ _
    rw [fullM_eq]
    refine ok_app (ok_sign _) (ok_join fun s hs => ?_)
    obtain ⟨j, _, rfl⟩ := List.mem_map.mp hs
    exact ok_sign _
/-! ### which rows occur -/
def InN (ns : List Str) (ts : List Tm) : Prop := ∀ t ∈ ts, t.1 ∈ ("" : Str) :: ns
theorem getD_in (ns : List Str) (i : Nat) : ns.getD i "" ∈ ("" : Str) :: ns := by
  rw [List.getD_eq_getElem?_getD]
  cases h : ns[i]? with
  | none => exact List.mem_cons_self
  | some v => exact List.mem_cons_of_mem _ (List.mem_of_getElem? h)
section
variable {ns : List Str}
theorem InN.app {a b : List Tm} (ha : InN ns a) (hb : InN ns b) : InN ns (a ++ b) := fun t ht => by
  rcases List.mem_append.mp ht with h | h
  · exact ha t h
  · exact hb t h
theorem InN.map {a : List Tm} (ha : InN ns a) {f : Tm → Tm} (hf : ∀ t, (f t).1 = t.1) : InN ns (a.map f) := fun t ht => by
  obtain ⟨u, hu, rfl⟩ := List.mem_map.mp ht
  rw [hf]; exact ha u hu
theorem InN.take {a : List Tm} (ha : InN ns a) (n : Nat) : InN ns (a.take n) := fun t ht => ha t (List.mem_of_mem_take ht)
theorem InN.ord {a : List Tm} (ha : InN ns a) : InN ns (ordM a) := fun t ht => by
  by_cases z : ∃ u ∈ a, u.k = t.k
  · obtain ⟨u, hu, e⟩ := z
    have e' : (u.1, u.2.1) = (t.1, t.2.1) := e
    rw [← (Prod.mk.inj e').1]
    exact ha u hu
  · have := ordM_mem.mp ht
    rw [cf_zero fun u hu e => z ⟨u, hu, e⟩] at this
    exact absurd this.1.symm this.2
theorem InN.mul {ps : List Pr} {a : List Tm} (ha : InN ns a) : InN ns (mulM ps a) := fun t ht => by
  obtain ⟨p, _, h1⟩ := List.mem_flatMap.mp ht
  obtain ⟨u, hu, rfl⟩ := List.mem_map.mp h1
  exact ha u hu
theorem InN.ok {a : List Tm} (ha : InN ns a) (hn : ∀ n ∈ ns, PyData.strOk n = true) : NOk a := fun t ht => by
  rcases List.mem_cons.mp (ha t ht) with e | e
  · rw [e]; decide +kernel
  · exact hn _ e
end
theorem in_base (ns : List Str) (row : List Int) : InN ns (baseT ns row) := fun t ht => by
  obtain ⟨k, _, rfl⟩ := List.mem_map.mp ht
  exact getD_in ns _
theorem in_drawn (ns : List Str) (row : List Int) : InN ns (drawnM ns row) := by
  have hb := in_base ns row
  have hg : ∀ {a : List Tm}, InN ns a → InN ns (negT a) := fun h => h.map fun _ => rfl
  unfold drawnM
  simp only
  split
  · exact hb.app (hg hb)
  · split
    · exact (hg (hb.take _)).app hb
    · split
      · exact hb.map fun _ => rfl
      · exact hb
theorem in_other {ns : List Str} {ts : List Tm} (h : InN ns ts) (d : Int) : InN ns (otherM ts d ns) := by
  unfold otherM
  split
  · exact InN.app (InN.map h (f := fun t => (t.1, t.2.1, t.2.2 - t.2.2 / 2)) fun _ => rfl) (InN.map h (f := fun t => (t.1, t.2.1, t.2.2 / 2)) fun _ => rfl)
  · split
    · refine InN.app (InN.app (fun t ht => ?_) h) fun t ht => ?_
      · rw [List.mem_singleton.mp ht]; exact getD_in ns _
      · rw [List.mem_singleton.mp ht]; exact getD_in ns _
    · exact fun t ht => h t (List.mem_reverse.mp ht)
/-! ### how many rows -/
theorem rowsM_len : ∀ ts : List Tm, (rowsM ts).length ≤ ts.length
  | [] => Nat.le_refl _
  | t :: ts => by
    have ih := rowsM_len ts
    unfold rowsM
    cases h : rowsM ts with
    | nil => simp
    | cons r rs =>
      rw [h] at ih
      rw [List.length_cons] at ih
      simp only
      split
      · rw [List.length_cons, List.length_cons]; omega
      · rw [List.length_cons, List.length_cons, List.length_cons]; omega
theorem nodup_le {α : Type} [DecidableEq α] : ∀ (l m : List α), l.Nodup → (∀ a ∈ l, a ∈ m) → l.length ≤ m.length
  | [], m, _, _ => Nat.zero_le _
  | a :: l, m, nd, h => by
    obtain ⟨n1, n2⟩ := List.nodup_cons.mp nd
    have ha := h a List.mem_cons_self
    have ih := nodup_le l (m.erase a) n2 fun b hb => (List.mem_erase_of_ne (fun e => n1 (by rw [← e]; exact hb))).mpr (h b (List.mem_cons_of_mem _ hb))
    rw [List.length_erase_of_mem ha] at ih
    have : 0 < m.length := List.length_pos_of_mem ha
    rw [List.length_cons]; omega
def ltS (a b : Str) : Prop := a.cps.toList < b.cps.toList
theorem rows_asc : ∀ {L : List Tm}, Can L → (rowsM L).Pairwise ltS
  | [], _ => List.Pairwise.nil
  | t :: L, h => by
    have ih := rows_asc h.tail
    have hl := (List.pairwise_cons.mp h.lt).1
    unfold rowsM
    cases hr : rowsM L with
    | nil => simp
    | cons r rs =>
      rw [hr] at ih
      simp only
      by_cases e : t.1 = r
      · rw [if_pos e]; exact ih
      · rw [if_neg e]
        refine List.pairwise_cons.mpr ⟨fun s hs => ?_, ih⟩
        have lr : ltS t.1 r := by
          obtain ⟨u, hu, eu⟩ := rowsM_names (ts := L) (s := r) (by rw [hr]; exact List.mem_cons_self)
          have := hl u hu
          unfold ltT ltK at this
          rw [if_neg (show ¬ (Tm.k t).1 = (Tm.k u).1 from fun z => e (z.trans eu))] at this
          have := of_decide_eq_true this
          rw [← eu]; exact this
        rcases List.mem_cons.mp hs with z | z
        · rw [z]; exact lr
        · exact List.lt_trans lr ((List.pairwise_cons.mp ih).1 s z)
theorem rows_few {ns : List Str} {L : List Tm} (h : Can L) (hi : InN ns L) : (rowsM L).length ≤ ns.length + 1 := by
  have nd : (rowsM L).Nodup := (rows_asc h).imp fun {a b} hab e => by
    unfold ltS at hab
    rw [e] at hab
    exact List.lt_irrefl _ hab
  have := nodup_le (rowsM L) (("" : Str) :: ns) nd fun s hs => by
    obtain ⟨t, ht, e⟩ := rowsM_names hs
    rw [← e]; exact hi t ht
  simpa using this
/-! ### bounds of what is drawn -/
theorem bd_base (ns : List Str) (row : List Int) : Bd 30 (baseT ns row) := fun t ht => by
  obtain ⟨k, _, rfl⟩ := List.mem_map.mp ht
  have := coefM_bound (nth row (9 + 5 * k)) (nth row (10 + 5 * k)) (nth row (11 + 5 * k))
  show (coefM _ _ _).natAbs < _
  omega
theorem bd_append {B : Nat} {a b : List Tm} (ha : Bd B a) (hb : Bd B b) : Bd B (a ++ b) := fun t ht => by
  rcases List.mem_append.mp ht with h | h
  · exact ha t h
  · exact hb t h
theorem bd_neg {B : Nat} {a : List Tm} (ha : Bd B a) : Bd B (negT a) := fun t ht => by
  obtain ⟨u, hu, rfl⟩ := List.mem_map.mp ht
  have := ha u hu
  show (-u.2.2).natAbs < _
  omega
theorem drawn_bd (ns : List Str) (row : List Int) : Bd 30 (drawnM ns row) := by
  have hb := bd_base ns row
  unfold drawnM
  simp only
  split
  · exact bd_append hb (bd_neg hb)
  · split
    · exact bd_append (bd_neg fun t ht => hb t (List.mem_of_mem_take ht)) hb
    · split
      · rename_i h
        intro t ht
        obtain ⟨u, hu, rfl⟩ := List.mem_map.mp ht
        have := h.2 u hu
        show (u.2.2 * facT row).natAbs < _
        omega
      · exact hb
theorem drawn_len {ns : List Str} {row : List Int} (h : rowOk szT row) : (drawnM ns row).length ≤ 120 := by
  have hm := manyT_bound h
  have hb : (baseT ns row).length ≤ 60 := by
    unfold baseT
    rw [List.length_map, List.length_range]; omega
  have hn : ∀ a : List Tm, (negT a).length = a.length := fun a => List.length_map _
  unfold drawnM
  simp only
  split
  · rw [List.length_append, hn]; omega
  · split
    · rw [List.length_append, hn, List.length_take]; omega
    · split
      · unfold sclT; rw [List.length_map]; omega
      · omega
theorem other_bd {ns : List Str} {ts : List Tm} (h : Bd 30 ts) (d : Int) : Bd 40 (otherM ts d ns) := by
  unfold otherM
  split
  · refine bd_append (fun t ht => ?_) fun t ht => ?_
    · obtain ⟨u, hu, rfl⟩ := List.mem_map.mp ht
      have := h u hu
      show (u.2.2 - u.2.2 / 2).natAbs < _
      omega
    · obtain ⟨u, hu, rfl⟩ := List.mem_map.mp ht
      have := h u hu
      show (u.2.2 / 2).natAbs < _
      omega
  · split
    · refine bd_append (bd_append (fun t ht => ?_) (bd_mono h (by decide))) fun t ht => ?_
      · rw [List.mem_singleton.mp ht]; show (0 : Int).natAbs < 2 ^ 40; decide
      · rw [List.mem_singleton.mp ht]; show (0 : Int).natAbs < 2 ^ 40; decide
    · exact bd_mono (fun t ht => h t (List.mem_reverse.mp ht)) (by decide)
theorem other_len {ns : List Str} {ts : List Tm} (h : ts.length ≤ 120) (d : Int) : (otherM ts d ns).length ≤ 300 := by
  unfold otherM
  split
  · rw [List.length_append, List.length_map, List.length_map]; omega
  · split
    · simp; omega
    · rw [List.length_reverse]; omega
theorem cf_reverse (ts : List Tm) (k : Kk) : cf ts.reverse k = cf ts k := by
  induction ts with
  | nil => rfl
  | cons t ts ih => rw [List.reverse_cons, cf_append, ih]; simp only [cf]; omega
theorem other_cf (ts : List Tm) (d : Int) (ns : List Str) (k : Kk) : cf (otherM ts d ns) k = cf ts k := by
  unfold otherM
  split
  · rw [cf_append]
    induction ts with
    | nil => rfl
    | cons t ts ih =>
      rename_i h
      have : ∀ ts : List Tm, cf (ts.map fun t => (t.1, t.2.1, t.2.2 - t.2.2 / 2)) k + cf (ts.map fun t => (t.1, t.2.1, t.2.2 / 2)) k = cf ts k := by
        intro ts
        induction ts with
        | nil => rfl
        | cons t ts ih =>
          show ((if Tm.k t = k then t.2.2 - t.2.2 / 2 else 0) + cf (ts.map fun t => (t.1, t.2.1, t.2.2 - t.2.2 / 2)) k) + ((if Tm.k t = k then t.2.2 / 2 else 0) + cf (ts.map fun t => (t.1, t.2.1, t.2.2 / 2)) k) = (if Tm.k t = k then t.2.2 else 0) + cf ts k
          rw [← ih]
          split <;> omega
      exact this (t :: ts)
  · split
    · rw [cf_append, cf_append]
      have z : ∀ (s : Str) (i : Int), cf [(s, i, 0)] k = 0 := fun s i => by simp [cf]
      rw [z, z]; omega
    · exact cf_reverse ts k
theorem ord_other (ts : List Tm) (d : Int) (ns : List Str) : ordM (otherM ts d ns) = ordM ts := ordM_eq (other_cf ts d ns)
theorem pairs_len (c : Int) : (pairsM c).length ≤ 40 := by
  have hr : rowOk szP (digM c szP) := rowOk_dig c fun s hs => (szP_ok s hs).1
  have := manyP_bound hr
  unfold pairsM
  rw [List.length_map, List.length_range]; omega
theorem pairs_bd (c : Int) : BdP 30 (pairsM c) := fun p hp => by
  obtain ⟨k, _, rfl⟩ := List.mem_map.mp hp
  have := coefM_bound (nth (digM c szP) (5 + 4 * k)) (nth (digM c szP) (6 + 4 * k)) (nth (digM c szP) (7 + 4 * k))
  show (coefM _ _ _).natAbs < _
  omega
theorem bd_mulM {A B : Nat} {ps : List Pr} {ts : List Tm} (hp : BdP A ps) (ht : Bd B ts) : Bd (A + B) (mulM ps ts) := fun t h => by
  obtain ⟨p, hp', h1⟩ := List.mem_flatMap.mp h
  obtain ⟨u, hu, rfl⟩ := List.mem_map.mp h1
  show (p.2 * u.2.2).natAbs < _
  exact wide_lt (hp p hp') (ht u hu)
end Go
set_option Elab.async false
set_option linter.all false
set_option maxRecDepth 100000
set_option maxHeartbeats 1000000
/-! Polynomials: what their coefficients tell. -/
namespace Go
open PySem PySem.Spec PyProof.Rows L2 DL
def ind (k s : Int) : Int := if s = k then 1 else 0
theorem cp_wt (k : Int) : ∀ ps : List Pr, cp ps k = wt (ind k) ps
  | [] => rfl
  | p :: ps => by
    rw [wt_cons, cp, cp_wt k ps]
    unfold ind
    split <;> omega
theorem cp_poly (ps : List Pr) (k : Int) : cp (polyM ps) k = cp ps k := by rw [cp_wt, cp_wt, wt_poly]
theorem wt_app (g : Int → Int) : ∀ a b : List Pr, wt g (a ++ b) = wt g a + wt g b
  | [], b => by rw [List.nil_append]; show wt g b = 0 + wt g b; omega
  | p :: a, b => by rw [List.cons_append, wt_cons, wt_cons, wt_app g a b]; omega
theorem cp_app (a b : List Pr) (k : Int) : cp (a ++ b) k = cp a k + cp b k := by rw [cp_wt, cp_wt, cp_wt, wt_app]
theorem poly_mem {ps : List Pr} {p : Pr} : p ∈ polyM ps ↔ p.2 = cp ps p.1 ∧ p.2 ≠ 0 := by
  refine ⟨poly_at, fun ⟨h1, h2⟩ => ?_⟩
  have hg := accP_get ps [] p.1
  have h0 : (gget ([] : List (Int × Int)) p.1).getD 0 = 0 := rfl
  rw [h0, Int.zero_add, ← h1] at hg
  unfold polyM
  refine List.mem_filterMap.mpr ⟨p.1, ?_, ?_⟩
  · refine (List.mergeSort_perm _ _).mem_iff.mpr ?_
    cases hv : gget (accP [] ps) p.1 with
    | none => rw [hv] at hg; exact absurd hg.symm h2
    | some v => exact gget_mem hv
  · rw [hg, if_pos h2]
theorem pcan_poly (ps : List Pr) : PCan (polyM ps) := ⟨asc_poly ps, fun p hp => (poly_at hp).2⟩
theorem cp_none {P : List Pr} {k : Int} (h : ∀ q ∈ P, q.1 ≠ k) : cp P k = 0 := by
  induction P with
  | nil => rfl
  | cons q P ih =>
    rw [cp, if_neg (h q List.mem_cons_self), ih fun u hu => h u (List.mem_cons_of_mem _ hu)]; rfl
theorem pcan_cp : ∀ {P : List Pr}, PCan P → ∀ {p : Pr}, p ∈ P → cp P p.1 = p.2
  | [], _, _, hp => nomatch hp
  | q :: P, h, p, hp => by
    have hl := (List.pairwise_cons.mp h.lt).1
    rw [cp]
    rcases List.mem_cons.mp hp with e | e
    · rw [e, if_pos rfl, cp_none fun u hu z => by have := hl u hu; omega]; omega
    · have := hl p e
      rw [if_neg (by omega), pcan_cp h.tail e]; omega
theorem pcan_mem {P : List Pr} (h : PCan P) {p : Pr} : p ∈ P ↔ p.2 = cp P p.1 ∧ p.2 ≠ 0 := by
  refine ⟨fun hp => ⟨(pcan_cp h hp).symm, h.ne p hp⟩, fun ⟨h1, h2⟩ => ?_⟩
  by_cases z : ∃ q ∈ P, q.1 = p.1
  · obtain ⟨q, hq, e⟩ := z
    have := pcan_cp h hq
    rw [e, ← h1] at this
    have e2 : q = p := Prod.ext e this.symm
    rw [← e2]; exact hq
  · rw [cp_none fun q hq e => z ⟨q, hq, e⟩] at h1
    exact absurd h1 h2
theorem pcan_eq {P Q : List Pr} (hP : PCan P) (hQ : PCan Q) (h : ∀ k, cp P k = cp Q k) : P = Q :=
  asc_eq (fun a b : Pr => a.1 < b.1) (fun a => Int.lt_irrefl _) (fun a b c h1 h2 => Int.lt_trans h1 h2) P Q hP.lt hQ.lt fun p => by rw [pcan_mem hP, pcan_mem hQ, h]
theorem poly_eq {a b : List Pr} (h : ∀ k, cp a k = cp b k) : polyM a = polyM b := pcan_eq (pcan_poly a) (pcan_poly b) fun k => by rw [cp_poly, cp_poly, h]
theorem poly_self {P : List Pr} (h : PCan P) : polyM P = P := pcan_eq (pcan_poly P) h fun k => cp_poly P k
theorem wt_congr {a b : List Pr} (h : ∀ k, cp a k = cp b k) (g : Int → Int) : wt g a = wt g b := by rw [← wt_poly, poly_eq h, wt_poly]
theorem cp_shift (p : Pr) (k : Int) : ∀ qs : List Pr, cp (qs.map fun q => (p.1 + q.1, p.2 * q.2)) k = p.2 * cp qs (k - p.1)
  | [] => by show (0 : Int) = p.2 * 0; omega
  | q :: qs => by
    rw [List.map_cons, cp, cp, cp_shift p k qs, Int.mul_add]
    congr 1
    by_cases e : p.1 + q.1 = k
    · rw [if_pos e, if_pos (by omega)]
    · rw [if_neg e, if_neg (by omega), Int.mul_zero]
theorem cp_mul (k : Int) (qs : List Pr) : ∀ ps : List Pr, cp (mulP ps qs) k = wt (fun s => cp qs (k - s)) ps
  | [] => rfl
  | p :: ps => by
    have e : mulP (p :: ps) qs = (qs.map fun q => (p.1 + q.1, p.2 * q.2)) ++ mulP ps qs := rfl
    rw [e, cp_app, cp_shift, cp_mul k qs ps, wt_cons]
theorem mul_cong {a a' b b' : List Pr} (h : ∀ k, cp a k = cp a' k) (h' : ∀ k, cp b k = cp b' k) (k : Int) : cp (mulP a b) k = cp (mulP a' b') k := by
  rw [cp_mul, cp_mul, wt_congr h]
  congr 1
  funext s
  rw [h']
theorem len_mulP (ps qs : List Pr) : (mulP ps qs).length = ps.length * qs.length := by
  unfold mulP
  induction ps with
  | nil => simp
  | cons p ps ih => rw [List.flatMap_cons, List.length_append, ih, List.length_map, List.length_cons, Nat.add_mul]; omega
theorem bd_mulP {A B : Nat} {ps qs : List Pr} (hp : BdP A ps) (hq : BdP B qs) : BdP (A + B) (mulP ps qs) := fun t h => by
  obtain ⟨p, hp', h1⟩ := List.mem_flatMap.mp h
  obtain ⟨u, hu, rfl⟩ := List.mem_map.mp h1
  exact wide_lt (hp p hp') (hq u hu)
theorem bdP_app {B : Nat} {a b : List Pr} (ha : BdP B a) (hb : BdP B b) : BdP B (a ++ b) := fun t ht => by
  rcases List.mem_append.mp ht with h | h
  · exact ha t h
  · exact hb t h
theorem bdP_mono {B C : Nat} {a : List Pr} (h : BdP B a) (hc : B ≤ C) : BdP C a := fun t ht => Nat.lt_of_lt_of_le (h t ht) (Nat.pow_le_pow_right (by decide) hc)
/-! ### equal polynomials -/
theorem po_po (a : List Pr) : polyM (polyM a) = polyM a := poly_eq (cp_poly a)
theorem po_add (a b : List Pr) : polyM (polyM a ++ polyM b) = polyM (a ++ b) := poly_eq fun k => by rw [cp_app, cp_app, cp_poly, cp_poly]
theorem po_swap (a b : List Pr) : polyM (a ++ b) = polyM (b ++ a) := poly_eq fun k => by rw [cp_app, cp_app]; omega
theorem po_mul (a b : List Pr) : polyM (mulP (polyM a) (polyM b)) = polyM (mulP a b) := poly_eq fun k => mul_cong (cp_poly a) (cp_poly b) k
theorem po_one (s c : Int) (h : c ≠ 0) : polyM [(s, c)] = [(s, c)] := poly_self ⟨List.pairwise_singleton _ _, fun p hp => by rw [List.mem_singleton.mp hp]; exact h⟩
theorem cp_neg (a : List Pr) (k : Int) : cp (mulP [(0, -1)] a) k = -cp a k := by
  rw [cp_mul, wt_cons]
  show (-1) * cp a (k - 0) + 0 = _
  rw [show k - 0 = k from by omega]; omega
theorem po_gone (a : List Pr) : polyM (a ++ polyM (mulP [(0, -1)] a)) = [] := by
  have : polyM (a ++ polyM (mulP [(0, -1)] a)) = polyM [] := poly_eq fun k => by
    rw [cp_app, cp_poly, cp_neg]
    show _ = (0 : Int); omega
  rw [this]; exact poly_self ⟨List.Pairwise.nil, fun _ h => nomatch h⟩
theorem po_three (a b : List Pr) : polyM (polyM (mulP a [(3, 1)]) ++ b) = polyM (mulP a [(3, 1)] ++ b) := poly_eq fun k => by rw [cp_app, cp_app, cp_poly]
theorem po_four (a b : List Pr) : polyM (mulP (polyM (a ++ b)) (polyM (b ++ a))) = polyM (mulP (a ++ b) (a ++ b)) := poly_eq fun k => mul_cong (cp_poly _) (fun k => by rw [cp_poly, cp_app, cp_app]; omega) k
/-! ### bounds of what is drawn -/
theorem bd_baseR (row : List Int) : BdP 30 (baseR row) := fun t ht => by
  obtain ⟨k, _, rfl⟩ := List.mem_map.mp ht
  have := coefM_bound (nth row (6 + 4 * k + 1)) (nth row (6 + 4 * k + 2)) (nth row (6 + 4 * k + 3))
  show (coefM _ _ _).natAbs < _
  omega
theorem bd_negP {B : Nat} {a : List Pr} (ha : BdP B a) : BdP B (negP a) := fun t ht => by
  obtain ⟨u, hu, rfl⟩ := List.mem_map.mp ht
  have := ha u hu
  show (-u.2).natAbs < _
  omega
theorem drawnR_bd (row : List Int) : BdP 30 (drawnR row) := by
  have hb := bd_baseR row
  unfold drawnR
  simp only
  split
  · exact bdP_app hb (bd_negP hb)
  · split
    · exact bdP_app (bd_negP fun t ht => hb t (List.mem_of_mem_take ht)) hb
    · split
      · rename_i h
        intro t ht
        obtain ⟨u, hu, rfl⟩ := List.mem_map.mp ht
        have := h.2 u hu
        show (u.2 * facQ row).natAbs < _
        omega
      · exact hb
theorem manyR_bound {row : List Int} (h : rowOk szR row) : 0 ≤ manyR row ∧ manyR row ≤ 40 := by
  have h0 := row_at (k := 0) (s := 12) h (by decide +kernel)
  have h1 := row_at (k := 1) (s := 41) h (by decide +kernel)
  unfold manyR
  have t : ∀ n : Nat, n < 12 → nth [0, 1, 2, 2, 3, 3, 3, 3, 3, 3, 3, 4] n = 0 ∨ nth [0, 1, 2, 2, 3, 3, 3, 3, 3, 3, 3, 4] n = 1 ∨ nth [0, 1, 2, 2, 3, 3, 3, 3, 3, 3, 3, 4] n = 2 ∨ nth [0, 1, 2, 2, 3, 3, 3, 3, 3, 3, 3, 4] n = 3 ∨ nth [0, 1, 2, 2, 3, 3, 3, 3, 3, 3, 3, 4] n = 4 := by decide
  rcases t (nth row 0).toNat (by omega) with e | e | e | e | e <;> rw [e]
  · show 0 ≤ nth row 1 ∧ nth row 1 ≤ 40; omega
  · show (0 : Int) ≤ 40 ∧ (40 : Int) ≤ 40; omega
  · show 0 ≤ nth row 1 % 13 ∧ nth row 1 % 13 ≤ 40; omega
  · show 0 ≤ 2 + nth row 1 % 6 ∧ 2 + nth row 1 % 6 ≤ 40; omega
  · show 0 ≤ nth row 1 % 3 ∧ nth row 1 % 3 ≤ 40; omega
theorem drawnR_len {row : List Int} (h : rowOk szR row) : (drawnR row).length ≤ 80 := by
  have hm := manyR_bound h
  have hb : (baseR row).length ≤ 40 := by
    unfold baseR
    rw [List.length_map, List.length_range]; omega
  have hn : ∀ a : List Pr, (negP a).length = a.length := fun a => List.length_map _
  unfold drawnR
  simp only
  split
  · rw [List.length_append, hn]; omega
  · split
    · rw [List.length_append, hn, List.length_take]; omega
    · split
      · unfold sclP; rw [List.length_map]; omega
      · omega
/-! ### the division told by polynomials -/
theorem cq_cp : ∀ (P : List Pr) (k : Int), cq P k = cp P k
  | [], _ => rfl
  | p :: P, k => by rw [cq, cp, cq_cp P k]
theorem cp_bd {B C : Nat} {ps : List Pr} (h : BdP B ps) (hl : ps.length < 2 ^ C) (k : Int) : (cp ps k).natAbs < 2 ^ (C + B) := by
  have h1 := cp_bound h k
  have h2 : ps.length * 2 ^ B < 2 ^ C * 2 ^ B := Nat.mul_lt_mul_of_pos_right hl (Nat.pow_pos (by decide))
  rw [← Nat.pow_add] at h2
  omega
theorem G_cp {a : As} (nd : (a.map (·.1)).Nodup) (k : Int) : cp a k = G a k := by
  induction a with
  | nil => rfl
  | cons p a ih =>
    have nd' := List.nodup_cons.mp nd
    have ih := ih nd'.2
    unfold G gget cp
    by_cases e : p.1 = k
    · rw [if_pos e, if_pos e, cp_none fun q hq z => nd'.1 (by show p.1 ∈ _; rw [e, ← z]; exact List.mem_map_of_mem hq)]
      show p.2 + 0 = p.2; omega
    · rw [if_neg e, if_neg e, Int.zero_add]; exact ih
structure DSpec (n : Nat) (P Q : List Pr) (m : Int) (F R : List Pr) : Prop where
  pos : 0 < m
  eq : ∀ k, m * cp P k = cp (mulP F Q) k + cp R k
  sh : ∀ p ∈ R, 0 ≤ p.1 ∧ p.1 < spP Q
  one : ∀ d : Int, d ∣ m → (∀ p ∈ F, d ∣ p.2) → (∀ p ∈ R, d ∣ p.2) → d ∣ 1
  mb : m.natAbs < 2 ^ n
  fb : BdP n F
  rb : BdP n R
  fs : ∀ p ∈ F, (-fstS Q ≤ p.1 ∧ p.1 ≤ (lastP P).1 - (lastP Q).1) ∨ (fstS P - fstS Q ≤ p.1 ∧ p.1 ≤ -fstS Q)
theorem steps_le {P Q : List Pr} {low : Int} (h : DOk P Q low) : nTop P Q low ≤ 401 ∧ nBot P low ≤ 200 := by
  have a := h.sp
  have b := h.sq
  have c := h.lw
  have lq := fst_le h.cq (lastP_mem h.nq)
  have a1 := a.lo
  have a2 := a.hi
  unfold nTop nBot spP
  constructor
  · omega
  · omega
theorem div_spec {P Q : List Pr} (h : DOk P Q 0) {b0 b t n : Nat} (h0 : ∀ k, (cp P k).natAbs < 2 ^ b0) (hq : ∀ k, (cp Q k).natAbs < 2 ^ b) (hbq : ∀ q ∈ Q, q.2.natAbs < 2 ^ b) (h1 : 1 ≤ b0) (ht : nTop P Q 0 + nBot P 0 ≤ t) (hn : b0 + t * (b + 1) ≤ n) : DSpec n P Q (runD P Q 0).scale (divF P Q 0) (divR P Q 0) := by
  obtain ⟨I, keys, high, low, bd⟩ := run_all2 h.cp h.cq h.nq 0 (b0 := b0) (b := b) (fun k => by rw [cq_cp]; exact hq k) hbq (fun k => by rw [cq_cp]; exact h0 k) h1
  have hn' : b0 + (nTop P Q 0 + nBot P 0) * (b + 1) ≤ n := Nat.le_trans (Nat.add_le_add_left (Nat.mul_le_mul_right _ ht) _) hn
  have l := Nat.pow_le_pow_right (show 0 < 2 by decide) hn'
  obtain ⟨b1, b2, b3⟩ := bd
  have hz : ∀ k, G (runD P Q 0).rest k ≠ 0 → 0 ≤ k ∧ k < spP Q := fun k hk => by
    constructor
    · by_cases z : 0 ≤ k
      · exact z
      · exfalso
        refine hk (low k ?_ (by omega))
        unfold nBot; omega
    · by_cases z : k < spP Q
      · exact z
      · exact absurd (high k (by omega)) hk
  have fv : ∀ {k : Int}, G (runD P Q 0).fac k ≠ 0 → (k, G (runD P Q 0).fac k) ∈ (runD P Q 0).fac := fun {k} hk => by
    have hm : (k, G (runD P Q 0).fac k) ∈ polyM (runD P Q 0).fac := poly_mem.mpr ⟨(G_cp I.nf k).symm, hk⟩
    have hk2 : k ∈ (runD P Q 0).fac.map (·.1) := by
      unfold G at hk
      cases hv : gget (runD P Q 0).fac k with
      | none => rw [hv] at hk; exact absurd rfl hk
      | some v => exact gget_mem hv
    obtain ⟨p, hp, e⟩ := List.mem_map.mp hk2
    have := gget_of_memI I.nf hp
    have e2 : G (runD P Q 0).fac k = p.2 := by unfold G; rw [← e, this]; rfl
    rw [e2, ← e]; exact hp
  refine ⟨I.pos, fun k => ?_, fun p hp => ?_, fun d d1 d2 d3 => ?_, Nat.lt_of_lt_of_le b1 l, fun p hp => ?_, fun p hp => ?_, fun p hp => ?_⟩
  · have e := I.eq k
    rw [cq_cp] at e
    rw [e, divR, cp_poly, G_cp I.nr, divF, cp_mul, wt_poly]
    congr 1
    congr 1
    funext j
    rw [cq_cp]
  · obtain ⟨e, ne⟩ := poly_mem.mp hp
    rw [G_cp I.nr] at e
    exact hz p.1 (by rw [← e]; exact ne)
  · refine I.one d d1 (fun p hp => ?_) fun k => ?_
    · by_cases z : p.2 = 0
      · rw [z]; exact Int.dvd_zero d
      · have e : cp (runD P Q 0).fac p.1 = p.2 := by
          rw [G_cp I.nf]; unfold G; rw [gget_of_memI I.nf hp]; rfl
        exact d2 p (poly_mem.mpr ⟨e.symm, z⟩)
    · by_cases z : G (runD P Q 0).rest k = 0
      · rw [z]; exact Int.dvd_zero d
      · exact d3 (k, G (runD P Q 0).rest k) (poly_mem.mpr ⟨(G_cp I.nr k).symm, z⟩)
  · obtain ⟨e, ne⟩ := poly_mem.mp hp
    rw [G_cp I.nf] at e
    have := b2 _ (fv (k := p.1) (by rw [← e]; exact ne))
    rw [← e] at this
    exact Nat.lt_of_lt_of_le this l
  · obtain ⟨e, ne⟩ := poly_mem.mp hp
    rw [G_cp I.nr] at e
    rw [e]
    exact Nat.lt_of_lt_of_le (b3 p.1) l
  · obtain ⟨e, ne⟩ := poly_mem.mp hp
    rw [G_cp I.nf] at e
    have hm := List.mem_map_of_mem (f := (·.1)) (fv (k := p.1) (by rw [← e]; exact ne))
    rcases keys p.1 hm with ⟨x1, x2⟩ | ⟨j, hj, e2⟩
    · exact .inl ⟨by omega, x2⟩
    · right
      unfold nBot at hj
      constructor <;> omega
end Go
set_option Elab.async false
set_option linter.all false
set_option maxRecDepth 100000
set_option maxHeartbeats 1000000
namespace Go
open PySem PySem.Spec PyProof.Rows L2 DL
section
variable {K : PySem.W.Frag} {W : WX} {ρ : List Sl} {te ta tb : TE} {d : D}
abbrev gPr (K : PySem.W.Frag) (i j : Nat) : TG := gSeqA K 2 (gCons (gName i) (gCons (gName j) gNil))
def encCl (d0 : D) (a : List (Int × Int)) : List Sl := [.d d0, .ok (encI a), .no, .no]
abbrev tbCl (K : PySem.W.Frag) : TS := sDPut (tVar 1) (tVar 2) (tOp (rAddA K) (tDGet2 (tVar 1) (tVar 2) (tC (.int 0))) (tVar 3))
theorem body_cl (d0 : D) (a : List (Int × Int)) (p : Pr) (hl : a.length < 16777216) : SvD K W (tbCl K) [.d d0, .ok (encI a), .d (.int p.1), .d (.int p.2)] (.nx (encCl d0 (stepP a p))) := by
  have hk : EvD K (tVar 2) [.d d0, .ok (encI a), .d (.int p.1), .d (.int p.2)] (kD (.inl p.1)) := ev_var rfl
  refine sv_nx (sv_putK (k := .inl p.1) (d := .int ((gget a p.1).getD 0 + p.2)) rfl (ev_addI (ev_eq (ev_get2K (dk_own rfl) hk ev_int) (get2_encI _ _)) (ev_var rfl)) hk (gputI_len hl)) [2, 3] ?_
  rw [gput_encI]; rfl
theorem run_cl (d0 : D) : ∀ {ds : List D} {ps : List Pr}, IsPrs ds ps → ∀ a : List (Int × Int), a.length + ps.length ≤ 4000000 → Run (Turn1 K W (gPr K 2 3) (tbCl K)) ds (encCl d0 a) (.nx (encCl d0 (accP a ps)))
  | _, _, .nil, a, _ => .nil
  | _, _, .lst (p := p) (ps := ps) h, a, hl => by
    rw [List.length_cons] at hl
    have hs : (stepP a p).length ≤ a.length + 1 := gput_length _ _ a
    exact .go ⟨_, _, tg_pair (.inl rfl), body_cl d0 a p (by omega)⟩ (run_cl d0 h (stepP a p) (by omega))
  | _, _, .tup (p := p) (ps := ps) h, a, hl => by
    rw [List.length_cons] at hl
    have hs : (stepP a p).length ≤ a.length + 1 := gput_length _ _ a
    exact .go ⟨_, _, tg_pair (.inr rfl), body_cl d0 a p (by omega)⟩ (run_cl d0 h (stepP a p) (by omega))
theorem fm_filter {α β : Type} (p : α → Prop) [DecidablePred p] (f : α → β) : ∀ l : List α, (l.filterMap fun a => if p a then some (f a) else none) = (l.filter fun a => decide (p a)).map f
  | [] => rfl
  | a :: l => by
    by_cases h : p a
    · rw [List.filterMap_cons, if_pos h, List.filter_cons, if_pos (by simpa using h), List.map_cons, fm_filter p f l]
    · rw [List.filterMap_cons, if_neg h, List.filter_cons, if_neg (by simpa using h), fm_filter p f l]
theorem encI_py (a : List (Int × Int)) : ((encI a).map fun kv => keyPy kv.1) = (a.map (·.1)).map PyData.int := by unfold encI; rw [List.map_map, List.map_map]; rfl
theorem pr_cleaned (W : WX) (ds : List D) (r : Res) (h : frcleaned ds r) : FnEnd K W (tcleaned K W) (entry Ncleaned ds) r := by
  obtain ⟨d, ps, ⟨xs, hx, hd⟩, hl, rfl, rfl⟩ := h
  left
  show SvD K W (tcleaned K W) [.d d, .no, .no, .no] _
  unfold tcleaned
  have ha := accP_len ps []
  have e0 : (([] : List (Int × Int))).length = 0 := rfl
  rw [e0] at ha
  refine sv_seq sv_asgDK (sv_seq (sv_for (wi_terms (ev_var rfl) hd) (run_cl d hx [] (by rw [e0]; omega))) ?_)
  show SvD K W _ (encCl d (accP [] ps)) _
  refine sv_retE (ev_tupZL (ds := (polyM ps).map pT) (sl_d (ev_of_L ?_))) rfl
  have hs := evl_sortK (K := K) (ρ := encCl d (accP [] ps)) (te := tVar 1) (kvs := encI (accP [] ps)) (dk_own rfl) (by rw [encI_py]; exact sortOk_ints (by rw [List.length_map]; omega))
  rw [encI_keys, sortD_ints] at hs
  have e1 : (polyM ps).map pT = ((((accP [] ps).map (·.1)).mergeSort leI).filter fun k => decide ((gget (accP [] ps) k).getD 0 ≠ 0)).map fun k => pT (k, (gget (accP [] ps) k).getD 0) := by
    unfold polyM
    rw [fm_filter (fun k => (gget (accP [] ps) k).getD 0 ≠ 0), List.map_map]; rfl
  rw [e1]
  refine evl_filter (e := D.int) _ _ (wi_seqL (wi_list (ev_of_L hs))) (fun k hk => ?_) (by rw [List.length_mergeSort, List.length_map]; omega)
  obtain ⟨v, hv⟩ := gget_some ((List.mergeSort_perm _ _).mem_iff.mp hk)
  have hg : gget (encI (accP [] ps)) (.inl k) = some (.int v) := by rw [gget_encI, hv]; rfl
  have hv0 : (gget (accP [] ps) k).getD 0 = v := by rw [hv]; rfl
  have hd : EvD K (tDGet (tVar 1) (tVar 2)) [.d d, .ok (encI (accP [] ps)), .d (.int k), .no] (.int v) := ev_dgetK (k := .inl k) (dk_own rfl) (ev_var rfl) hg
  rw [hv0]
  refine ⟨[2], _, tg_name, by simp, tv_eq (tv_neI hd ev_int) ?_, fun _ => ev_tup (av_cons (ev_var rfl) (av_cons hd av_nil)) le2⟩
  rw [beqI]; simp
theorem ev_pr0 {p : Pr} (h : EvD K te ρ (pT p)) : EvD K (tOp (rIxA K) te (tC (.int 0))) ρ (.int p.1) := ev_ixT (i := 0) (st_d (ds := [.int p.1, .int p.2]) h) ev_int rfl
theorem ev_pr1 {p : Pr} (h : EvD K te ρ (pT p)) : EvD K (tOp (rIxA K) te (tC (.int 1))) ρ (.int p.2) := ev_ixT (i := 1) (st_d (ds := [.int p.1, .int p.2]) h) ev_int rfl
theorem lastP_snd : ∀ P : List Pr, P ≠ [] → ∃ Q, P = Q ++ [lastP P]
  | [], h => absurd rfl h
  | [p], _ => ⟨[], rfl⟩
  | a :: p :: r, _ => by
    obtain ⟨Q, hQ⟩ := lastP_snd (p :: r) (by simp)
    refine ⟨a :: Q, ?_⟩
    show a :: p :: r = a :: (Q ++ [lastP (p :: r)])
    rw [← hQ]
theorem po_last {P : List Pr} (hn : P ≠ []) (hd : IsPoly d P) (h : EvD K te ρ d) : EvD K (tOp (rIxA K) te (tUn (rU fun i => .int (-i)) (tC (.int 1)))) ρ (pT (lastP P)) := by
  obtain ⟨Q, hQ⟩ := lastP_snd P hn
  refine ev_ixT (i := -1) (st_po hd h) (ev_neg ev_int) ?_
  have : P.map pT = Q.map pT ++ [pT (lastP P)] := by
    rw [← List.map_singleton (f := pT), ← List.map_append, ← hQ]
  rw [this]; exact atI_last
theorem po_first {P : List Pr} (hn : P ≠ []) (hd : IsPoly d P) (h : EvD K te ρ d) : EvD K (tOp (rIxA K) te (tC (.int 0))) ρ (pT (firstP P)) := by
  cases P with
  | nil => exact absurd rfl hn
  | cons p P => exact ev_ixT (i := ((0 : Nat) : Int)) (st_po hd h) ev_int (atI_nat (by rfl))
theorem pr_spread (W : WX) (ds : List D) (r : Res) (h : frspread ds r) : FnEnd K W (tspread K W) (entry Nspread ds) r := by
  obtain ⟨d, P, hd, hn, rfl, rfl⟩ := h
  left
  show SvD K W (tspread K W) [.d d] _
  exact sv_ret (ev_subI (ev_pr0 (po_last hn hd (ev_var rfl))) (ev_pr0 (po_first hn hd (ev_var rfl))))
theorem tv_noP {P : List Pr} (hd : IsPoly d P) (h : EvD K te ρ d) : TvD K (tNot (tTru K te)) ρ P.isEmpty := tv_eq (tv_not (tru_po hd h)) (by rw [Bool.not_not])
theorem emp_false {α : Type} {l : List α} (h : l ≠ []) : l.isEmpty = false := by
  cases l with
  | nil => exact absurd rfl h
  | cons _ _ => rfl
/-! ### divided -/
def xD (x : Int × Pr) : D := .tup [.int x.1, pT x.2]
def fzA (a : As) : D := Sl.frz (.ok (encI a))
theorem keys_fz (a : As) : KeysD (fzA a) (a.map fun p => D.int p.1) := .inl ⟨(encI a).map (·.1), (encI a).map (·.2), rfl, by unfold encI; rw [List.map_map, List.map_map]; rfl⟩
theorem evdk_fz {a : As} (h : EvD K te ρ (fzA a)) : EvDK K te ρ (encI a) := by
  have := dk_d (ks := (encI a).map (·.1)) (ds := (encI a).map (·.2)) h
  rw [zip_self] at this; exact this
theorem evdn_times {a : As} {g : Int} {s : Nat} (hs : ρ[s]? = some (.d (fzA a))) (nd : (a.map (·.1)).Nodup) (hl : a.length ≤ 16777215) (hg : ∀ v : Int, EvD K ta ((wipeS ρ [13]).set 13 (.d (.int v))) (.int g)) (hv : ∀ v : Int, ((wipeS ρ [13]).set 13 (.d (.int v)))[s]? = some (.d (fzA a))) (h13 : ∀ v : Int, ((wipeS ρ [13]).set 13 (.d (.int v)))[13]? = some (.d (.int v))) (hm : ∀ p ∈ a, CMulX g p.2) :
    EvDN K (tLockEA (tDc (iSeq K (tVar s)) (gName 13) tYes (tVar 13) (tOp rMulA ta (tDGet (tVar s) (tVar 13))) [13])) ρ (encI (timesA g a)) := by
  have z := evdn_map (K := K) (tk := tVar 13) (tv := tOp rMulA ta (tDGet (tVar s) (tVar 13))) (g := gName 13) (vs := [13]) (ρ := ρ) (s := s) (as := a) (fun p : Int × Int => D.int p.1) (fun p => (.inl p.1 : Key)) (fun p => D.int (g * p.2)) hs (keys_fz a) (by
    have : (a.map fun p => (.inl p.1 : Key)) = (a.map (·.1)).map Sum.inl := by rw [List.map_map]; rfl
    rw [this]; exact List.pairwise_map.mpr (nd.imp fun {x y} hxy e => hxy (Sum.inl.inj e))) (fun p hp => ⟨[13], _, tg_name, by simp, ev_var (h13 p.1), ev_mulI (hg p.1) (ev_dgetK (k := .inl p.1) (evdk_fz (ev_var (hv p.1))) (ev_var (h13 p.1)) (by rw [gget_encI, gget_of_memI nd hp]; rfl)) (hm p hp)⟩) hl
  have e : (a.map fun p : Int × Int => ((.inl p.1 : Key), D.int (g * p.2))) = encI (timesA g a) := by unfold encI timesA; rw [List.map_map]; rfl
  rw [e] at z; exact z
end
end Go
set_option Elab.async false
set_option linter.all false
set_option maxRecDepth 100000
set_option maxHeartbeats 1000000
namespace Go
open PySem PySem.Spec PyProof.Rows L2 DL
section
variable {K : PySem.W.Frag} {W : WX} {ρ ρ1 ρ' : List Sl} {te ta tb : TE} {d : D} {t : TS}
theorem sv_ct (h : SvD K W t ρ (.ct ρ1)) (is : List Nat) (e : wipeS ρ1 is = ρ') : SvD K W t ρ (.ct ρ') := e ▸ fun E F0 H0 F H σ R p =>
  h E F0 H0 F H σ R fun σ' F' H' g R' => p σ' F' H' g (R'.wipeK is)
structure WI (Q : List Pr) (n : Nat) (s : Sd) : Prop where
  nf : (s.fac.map (·.1)).Nodup
  nr : (s.rest.map (·.1)).Nodup
  bd : BdS (100020 + n * 8021) s
  lr : s.rest.length ≤ 5000 * (n + 1)
  lf : s.fac.length ≤ n
def encD (P : List Pr) (dq : D) (low : Int) (S : List (Int × Pr)) (s : Sd) : List Sl := [.d (ePolyZ P), .d dq, .d (.int low), .d (.lst (S.map xD)), .no, .ok (encI s.rest), .ok (encI s.fac), .d (.int s.scale), .no, .no, .no, .no, .no, .no, .no, .no]
def encE (P : List Pr) (dq : D) (low : Int) (S : List (Int × Pr)) (fac : As) (scale at' e c held g grow : Int) (r : As) : List Sl := [.d (ePolyZ P), .d dq, .d (.int low), .d (.lst (S.map xD)), .d (.int at'), .ok (encI r), .ok (encI fac), .d (.int scale), .d (.int e), .d (.int c), .d (.int held), .d (.int g), .d (.int grow), .no, .no, .no]
abbrev tbE (K : PySem.W.Frag) : TS := (tSeq (tAsg (tOp (rI0 fun i j => .int (i - j)) (tOp (rAddA K) (tVar 13) (tVar 4)) (tVar 8)) (gName 15))
    (sDPut (tVar 5) (tVar 15) (tOp (rI0 fun i j => .int (i - j)) (tDGet2 (tVar 5) (tVar 15) (tC (.int 0))) (tOp rMulA (tOp rDivA (tVar 10) (tVar 11)) (tVar 14)))))
theorem run_e {P : List Pr} {dq : D} {low : Int} {S : List (Int × Pr)} {fac : As} {scale at' e c held g grow : Int} (hdiv : CDivX held g) : ∀ (M : List Pr) (r : As), (∀ q ∈ M, CMulX (held.fdiv g) q.2) → r.length + M.length ≤ 16700000 →
    Run (Turn1 K W (gPr K 13 14) (tbE K)) (M.map pT) (encE P dq low S fac scale at' e c held g grow r) (.nx (encE P dq low S fac scale at' e c held g grow (M.foldl (putQ (held.fdiv g) (at' - e)) r)))
  | [], r, _, _ => .nil
  | q :: M, r, hm, hl => by
    rw [List.length_cons] at hl
    have hs : (putQ (held.fdiv g) (at' - e) r q).length ≤ r.length + 1 := gput_length _ _ r
    have ih := run_e (P := P) (dq := dq) (low := low) (S := S) (fac := fac) (scale := scale) (at' := at') (e := e) (c := c) (grow := grow) hdiv M (putQ (held.fdiv g) (at' - e) r q) (fun u hu => hm u (List.mem_cons_of_mem _ hu)) (by omega)
    refine .go ⟨_, _, tg_pair (.inr rfl), sv_nx (sv_seq (sv_asg (d := .int (q.1 + at' - e)) (ev_subI (ev_addI (ev_var rfl) (ev_var rfl)) (ev_var rfl))) (sv_putK (k := .inl (q.1 + at' - e)) (d := .int (G r (q.1 + at' - e) - held.fdiv g * q.2)) rfl (ev_subI (ev_eq (ev_get2K (k := .inl (q.1 + at' - e)) (dk_own rfl) (ev_var rfl) ev_int) (get2_encI _ _)) (ev_mulI (ev_divX (ev_var rfl) (ev_var rfl) hdiv) (ev_var rfl) (hm q List.mem_cons_self))) (ev_var rfl) (gputI_len (by omega)))) [13, 14, 15] ?_⟩ ih
    rw [gput_encI]
    unfold putQ
    rw [show q.1 + (at' - e) = q.1 + at' - e from by omega]; rfl
abbrev tbDv (K : PySem.W.Frag) : TS := (tSeq (tAsg (tDGet2 (tVar 5) (tVar 4) (tC (.int 0))) (gName 10))
    (tSeq (tIfS (tTest (tOp (rEqD K) (tVar 10) (tC (.int 0)))) tCont tNext)
    (tSeq (tAsg (tCB rGcd (tCons (tVar 10) (tCons (tVar 9) tNil))) (gName 11))
    (tSeq (tIfS (tTest (tOp (rI0 fun i j => .bl (decide (i < j))) (tVar 9) (tC (.int 0)))) (tAsg (tUn (rU fun i => .int (-i)) (tVar 11)) (gName 11)) tNext)
    (tSeq (tAsg (tOp rDivA (tVar 9) (tVar 11)) (gName 12))
    (tSeq (tIfS (tTest (tOp (rNeD K) (tVar 12) (tC (.int 1)))) (tSeq (tAsg (tLockEA (tDc (iSeq K (tVar 5)) (gName 13) tYes (tVar 13) (tOp rMulA (tVar 12) (tDGet (tVar 5) (tVar 13))) [13])) (gName 5))
    (tSeq (tAsg (tLockEA (tDc (iSeq K (tVar 6)) (gName 13) tYes (tVar 13) (tOp rMulA (tVar 12) (tDGet (tVar 6) (tVar 13))) [13])) (gName 6))
    (tAsg (tOp rMulA (tVar 7) (tVar 12)) (gName 7)))) tNext)
    (tSeq (sDPut (tVar 6) (tOp (rI0 fun i j => .int (i - j)) (tVar 4) (tVar 8)) (tOp rDivA (tVar 10) (tVar 11)))
    (tFor (iSeq K (tVar 1)) (gPr K 13 14) (tbE K)))))))))
abbrev gDv (K : PySem.W.Frag) : TG := (gSeqA K 2 (gCons (gName 4) (gCons (gSeqA K 2 (gCons (gName 8) (gCons (gName 9) gNil))) gNil)))
theorem G_of {a : As} (nd : (a.map (·.1)).Nodup) {p : Int × Int} (hp : p ∈ a) : G a p.1 = p.2 := by unfold G; rw [gget_of_memI nd hp]; rfl
theorem fold_len (h m : Int) : ∀ (Q : List Pr) (r : As), (Q.foldl (putQ h m) r).length ≤ r.length + Q.length
  | [], r => Nat.le_refl _
  | q :: Q, r => by
    have hs : (putQ h m r q).length ≤ r.length + 1 := gput_length _ _ r
    have := fold_len h m Q (putQ h m r q)
    rw [List.foldl_cons, List.length_cons]; omega
theorem times_len (g : Int) (a : As) : (timesA g a).length = a.length := List.length_map _
theorem step_wi {Q : List Pr} {n : Nat} {s : Sd} (hQ : PCan Q) (bq : BdP 8000 Q) (lq : Q.length ≤ 5000) (I : WI Q n s) {x : Int × Pr} (hx : x.2 ∈ Q) : WI Q (n + 1) (stepD Q s x) := by
  have hb := step_bd (n := 100020 + n * 8021) (b := 8020) x (hQ.ne _ hx) (Nat.lt_of_lt_of_le (bq _ hx) (Nat.pow_le_pow_right (by decide) (by decide))) (fun k => by rw [cq_cp]; exact cp_bd (C := 20) bq (Nat.lt_of_le_of_lt lq (by decide)) k) I.bd
  rw [show 100020 + n * 8021 + 8020 + 1 = 100020 + (n + 1) * 8021 from by omega] at hb
  obtain ⟨nf, nr, bd, lr, lf⟩ := I
  by_cases h : G s.rest x.1 = 0
  · have e : stepD Q s x = s := by unfold stepD; simp only; rw [if_pos h]
    rw [e] at hb ⊢
    exact ⟨nf, nr, hb, by omega, by omega⟩
  · rw [stepD_eq Q s x h] at hb ⊢
    refine ⟨(gput_keys _ _ _ (by rw [times_keys]; exact nf)).1, fold_nodup _ _ _ _ (by rw [times_keys]; exact nr), hb, ?_, ?_⟩
    · refine Nat.le_trans (fold_len _ _ _ _) ?_
      rw [times_len]; omega
    · refine Nat.le_trans (gput_length _ _ _) ?_
      rw [times_len]; omega
theorem run_dv {P Q : List Pr} {dq : D} {low : Int} {S : List (Int × Pr)} (hQ : PCan Q) (hd : IsPoly dq Q) (bq : BdP 8000 Q) (lq : Q.length ≤ 5000) : ∀ (X : List (Int × Pr)) (n : Nat) (s : Sd), (∀ x ∈ X, x.2 ∈ Q) → WI Q n s → n + X.length ≤ 700 →
    Run (Turn1 K W (gDv K) (tbDv K)) (X.map xD) (encD P dq low S s) (.nx (encD P dq low S (X.foldl (stepD Q) s)))
  | [], n, s, _, _, _ => .nil
  | x :: X, n, s, hx, I, hn => by
    rw [List.length_cons] at hn
    have hxq := hx x List.mem_cons_self
    have ih := run_dv (P := P) (low := low) (S := S) hQ hd bq lq X (n + 1) (stepD Q s x) (fun y hy => hx y (List.mem_cons_of_mem _ hy)) (step_wi hQ bq lq I hxq) (by omega)
    obtain ⟨nf, nr, bd, lr, lf⟩ := I
    obtain ⟨at', e, c⟩ := x
    have hc : c ≠ 0 := hQ.ne _ hxq
    have bc : c.natAbs < 2 ^ 8000 := bq _ hxq
    have tg : TgD K (gDv K) ([4] ++ (([8] ++ ([9] ++ [])) ++ [])) (xD (at', e, c)) (encD P dq low S s) [.d (ePolyZ P), .d dq, .d (.int low), .d (.lst (S.map xD)), .d (.int at'), .ok (encI s.rest), .ok (encI s.fac), .d (.int s.scale), .d (.int e), .d (.int c), .no, .no, .no, .no, .no, .no] :=
      tg_seqT (tgs_cons tg_name (tgs_cons (tg_pair (t := (e, c)) (.inr rfl)) tgs_nil)) rfl
    have s1 : SvD K W (tAsg (tDGet2 (tVar 5) (tVar 4) (tC (.int 0))) (gName 10)) [.d (ePolyZ P), .d dq, .d (.int low), .d (.lst (S.map xD)), .d (.int at'), .ok (encI s.rest), .ok (encI s.fac), .d (.int s.scale), .d (.int e), .d (.int c), .no, .no, .no, .no, .no, .no] (.nx [.d (ePolyZ P), .d dq, .d (.int low), .d (.lst (S.map xD)), .d (.int at'), .ok (encI s.rest), .ok (encI s.fac), .d (.int s.scale), .d (.int e), .d (.int c), .d (.int (G s.rest at')), .no, .no, .no, .no, .no]) :=
      sv_asg (d := .int (G s.rest at')) (ev_eq (ev_get2K (k := .inl at') (dk_own rfl) (ev_var rfl) ev_int) (get2_encI _ _))
    by_cases h : G s.rest at' = 0
    · have es : stepD Q s (at', e, c) = s := by unfold stepD; simp only; rw [if_pos h]
      rw [List.foldl_cons]
      rw [es] at ih ⊢
      refine .ct ⟨_, _, tg, sv_ct (sv_seq s1 (sv_stop (sv_ifT (tv_eq (tv_eqI (ev_var rfl) ev_int) (by rw [h]; rfl)) sv_cont))) [4, 8, 9, 10] rfl⟩ ih
    · rw [List.foldl_cons]
      have es := stepD_eq Q s (at', e, c) h
      generalize hheld : G s.rest at' = held at *
      have es' : stepD Q s (at', e, c) = ⟨Q.foldl (putQ (hG held c) (at' - e)) (timesA (growG held c) s.rest), gput (timesA (growG held c) s.fac) (at' - e) (hG held c), s.scale * growG held c⟩ := es
      rw [es'] at ih ⊢
      have hn8 : 100020 + n * 8021 ≤ 5800000 := by omega
      have lt8 := Nat.pow_le_pow_right (show 0 < 2 by decide) hn8
      obtain ⟨b1, b2, b3⟩ := bd
      have bh : held.natAbs < 2 ^ 5800000 := by rw [← hheld]; exact Nat.lt_of_lt_of_le (b3 at') lt8
      obtain ⟨g1, g2⟩ := fac_le (held := held) hc
      have bg : (growG held c).natAbs < 2 ^ 8000 := by omega
      have bhg : (hG held c).natAbs < 2 ^ 5800000 := by omega
      have bsh : (shG held c).natAbs < 2 ^ 8000 := by
        have := grow_mul (held := held) hc
        have gp := grow_pos (held := held) hc
        have e2 : c.natAbs = (growG held c).natAbs * (shG held c).natAbs := by rw [← Int.natAbs_mul, this]
        have : (shG held c).natAbs ≤ (growG held c).natAbs * (shG held c).natAbs := Nat.le_mul_of_pos_left _ (by omega)
        omega
      have dv : ∀ i : Int, CDivX i (shG held c) := fun i => divX_of (shG_ne hc) 8000 bsh (by decide) (by decide)
      refine .go ⟨_, _, tg, sv_nx (show SvD K W _ _ (.nx (encE P dq low S (gput (timesA (growG held c) s.fac) (at' - e) (hG held c)) (s.scale * growG held c) at' e c held (shG held c) (growG held c) (Q.foldl (putQ (hG held c) (at' - e)) (timesA (growG held c) s.rest)))) from ?_) [4, 8, 9, 10, 11, 12, 13, 14, 15] rfl⟩ ih
      refine sv_seq s1 (sv_seq (sv_ifF (tv_eq (tv_eqI (ev_var rfl) ev_int) (beq_eq_false_iff_ne.mpr h)) sv_next) (sv_seq (sv_asg (d := .int (gcdI held c)) (ev_gcd (ev_var rfl) (ev_var rfl))) ?_))
      refine sv_seq (ρ' := [.d (ePolyZ P), .d dq, .d (.int low), .d (.lst (S.map xD)), .d (.int at'), .ok (encI s.rest), .ok (encI s.fac), .d (.int s.scale), .d (.int e), .d (.int c), .d (.int held), .d (.int (shG held c)), .no, .no, .no, .no]) ?_ ?_
      · have hif : shG held c = if c < 0 then -(gcdI held c) else gcdI held c := rfl
        rw [hif]
        by_cases z : c < 0
        · rw [if_pos z]
          exact sv_ifT (tv_eq (tv_cmpI (g := fun i j => decide (i < j)) (ev_var rfl) ev_int) (by simpa using z)) (sv_asg (ev_neg (ev_var rfl)))
        · rw [if_neg z]
          exact sv_ifF (tv_eq (tv_cmpI (g := fun i j => decide (i < j)) (ev_var rfl) ev_int) (by simpa using z)) sv_next
      refine sv_seq (sv_asg (d := .int (growG held c)) (ev_divX (ev_var rfl) (ev_var rfl) (dv c))) ?_
      show SvD K W _ (encE P dq low S s.fac s.scale at' e c held (shG held c) (growG held c) s.rest) _
      have lr' : s.rest.length ≤ 16000000 := by omega
      refine sv_seq (ρ' := encE P dq low S (timesA (growG held c) s.fac) (s.scale * growG held c) at' e c held (shG held c) (growG held c) (timesA (growG held c) s.rest)) ?_ ?_
      · by_cases z : growG held c = 1
        · have t1 : ∀ a : As, timesA (growG held c) a = a := fun a => by
            have := one_if (growG held c) a
            rw [if_neg (by simpa using z)] at this
            exact this.symm
          rw [t1, t1, show s.scale * growG held c = s.scale from by rw [z, Int.mul_one]]
          exact sv_ifF (tv_eq (tv_neI (ev_var rfl) ev_int) (by rw [z]; rfl)) sv_next
        · refine sv_ifT (tv_eq (tv_neI (ev_var rfl) ev_int) (by rw [beq_eq_false_iff_ne.mpr z]; rfl)) (sv_seq (sv_frz (s := .ok (encI s.rest)) 5 rfl rfl (sv_asgDN (evdn_times (a := s.rest) (g := growG held c) (s := 5) rfl nr (by omega) (fun v => ev_var rfl) (fun v => rfl) (fun v => rfl) fun p hp => ?_))) (sv_seq (sv_frz (s := .ok (encI s.fac)) 6 rfl rfl (sv_asgDN (evdn_times (a := s.fac) (g := growG held c) (s := 6) rfl nf (by omega) (fun v => ev_var rfl) (fun v => rfl) (fun v => rfl) fun p hp => ?_))) (sv_asg (ev_mulI (ev_var rfl) (ev_var rfl) ?_))))
          · refine mul_ok 8000 5800000 bg ?_ (by decide)
            rw [← G_of nr hp]
            exact Nat.lt_of_lt_of_le (b3 p.1) lt8
          · exact mul_ok 8000 5800000 bg (Nat.lt_of_lt_of_le (b2 p hp) lt8) (by decide)
          · exact mul_ok 5800000 8000 (Nat.lt_of_lt_of_le b1 lt8) bg (by decide)
      · refine sv_seq (ρ' := encE P dq low S (gput (timesA (growG held c) s.fac) (at' - e) (hG held c)) (s.scale * growG held c) at' e c held (shG held c) (growG held c) (timesA (growG held c) s.rest)) ?_ ?_
        · refine sv_to (sv_putK (k := .inl (at' - e)) (d := .int (hG held c)) rfl (ev_divX (ev_var rfl) (ev_var rfl) (dv held)) (ev_subI (ev_var rfl) (ev_var rfl)) (gputI_len (by rw [times_len]; omega))) ?_
          rw [gput_encI]; rfl
        · refine sv_for (wi_po hd (ev_var rfl)) (run_e (dv held) Q (timesA (growG held c) s.rest) (fun q hq => mul_ok 5800000 8000 bhg (bq q hq) (by decide)) (by rw [times_len]; omega))
end
end Go
set_option Elab.async false
set_option linter.all false
set_option maxRecDepth 100000
set_option maxHeartbeats 1000000
namespace Go
open PySem PySem.Spec PyProof.Rows L2 DL
section
variable {K : PySem.W.Frag} {W : WX} {ρ : List Sl} {te ta tb : TE} {d : D}
theorem items_eP (a : List Pr) : ((encI a).map fun kv => D.tup [kD kv.1, kv.2]) = a.map pT := by unfold encI; rw [List.map_map]; rfl
theorem wi_fold {Q : List Pr} (hQ : PCan Q) (bq : BdP 8000 Q) (lq : Q.length ≤ 5000) : ∀ (X : List (Int × Pr)) (n : Nat) (s : Sd), (∀ x ∈ X, x.2 ∈ Q) → WI Q n s → WI Q (n + X.length) (X.foldl (stepD Q) s)
  | [], n, s, _, I => I
  | x :: X, n, s, hx, I => by
    have := wi_fold hQ bq lq X (n + 1) (stepD Q s x) (fun y hy => hx y (List.mem_cons_of_mem _ hy)) (step_wi hQ bq lq I (hx x List.mem_cons_self))
    rw [List.length_cons, show n + (X.length + 1) = n + 1 + X.length from by omega]
    exact this
theorem wi_beg {P Q : List Pr} {low : Int} (h : DOk P Q low) : WI Q 0 (begD P) := by
  have l := Nat.pow_le_pow_right (show 0 < 2 by decide) (show 1 ≤ 100020 by decide)
  refine ⟨List.nodup_nil, nodup_can h.cp, ⟨?_, fun p hp => (nomatch hp), fun k => ?_⟩, by have := h.lp; show P.length ≤ _; omega, Nat.le_refl _⟩
  · show (1 : Int).natAbs < 2 ^ (100020 + 0 * 8021)
    have e : (1 : Int).natAbs = 1 := rfl
    rw [e, Nat.zero_mul, Nat.add_zero]; omega
  · show (G P k).natAbs < 2 ^ (100020 + 0 * 8021)
    rw [Nat.zero_mul, Nat.add_zero, G_self h.cp, cq_cp]
    exact cp_bd (C := 20) h.bp (Nat.lt_of_le_of_lt h.lp (by decide)) k
theorem steps_q {P Q : List Pr} {low : Int} (nq : Q ≠ []) : ∀ x ∈ stepsM P Q low, x.2 ∈ Q := fun x hx => by
  rcases List.mem_append.mp hx with h | h
  · obtain ⟨n, _, rfl⟩ := List.mem_map.mp h; exact lastP_mem nq
  · obtain ⟨n, _, rfl⟩ := List.mem_map.mp h; exact firstP_mem nq
theorem steps_len {P Q : List Pr} {low : Int} (h : DOk P Q low) : (stepsM P Q low).length ≤ 601 := by
  have := steps_le h
  unfold stepsM
  rw [List.length_append, List.length_map, List.length_map, List.length_range, List.length_range]; omega
theorem pr_divided (W : WX) (ds : List D) (r : Res) (h : frdivided ds r) : FnEnd K W (tdivided K W) (entry Ndivided ds) r := by
  obtain ⟨dq, P, Q, low, hD, hd, rfl, rfl⟩ := h
  left
  show SvD K W (tdivided K W) [.d (ePolyZ P), .d dq, .d (.int low), .no, .no, .no, .no, .no, .no, .no, .no, .no, .no, .no, .no, .no] _
  unfold tdivided
  have hz : IsPoly (ePolyZ P) P := .inr rfl
  by_cases hn : P = []
  · refine sv_stop (sv_ifT (tv_eq (tv_noP (P := P) hz (ev_var rfl)) (by rw [hn]; rfl)) (sv_retE (ev_tup (av_cons ev_int (av_cons (ev_tup av_nil (by decide)) (av_cons (ev_tup av_nil (by decide)) av_nil))) le3) ?_))
    unfold eDiv; rw [if_pos hn]
  have hres : eDiv P Q low = .tup [.int (runD P Q low).scale, ePolyZ (divF P Q low), ePolyZ (divR P Q low)] := by unfold eDiv; rw [if_neg hn]
  rw [hres]
  refine sv_seq (sv_ifF (tv_eq (tv_noP (P := P) hz (ev_var rfl)) (emp_false hn)) sv_next) ?_
  obtain ⟨s1, s2⟩ := hD.sp
  obtain ⟨q1, q2⟩ := hD.sq
  have lw := hD.lw
  have lq := fst_le hD.cq (lastP_mem hD.nq)
  have lpp := fst_le hD.cp (lastP_mem hn)
  have hsp : spP Q = (lastP Q).1 - fstS Q := rfl
  have t1 := steps_le hD
  have c1 := evl_map (K := K) (wi := iRng3 (tCons (tOp (rIxA K) (tOp (rIxA K) (tVar 0) (tUn (rU fun i => .int (-i)) (tC (.int 1)))) (tC (.int 0))) (tCons (tOp (rI0 fun i j => .int (i - j)) (tOp (rAddA K) (tVar 2) (tCallS (SpF K Pspread.length frspread) (WE W) (tCons (tVar 1) tNil))) (tC (.int 1))) (tCons (tUn (rU fun i => .int (-i)) (tC (.int 1))) tNil)))) (ρ := [.d (ePolyZ P), .d dq, .d (.int low), .no, .no, .no, .no, .no, .no, .no, .no, .no, .no, .no, .no, .no]) (te := tTup (tCons (tVar 4) (tCons (tOp (rIxA K) (tVar 1) (tUn (rU fun i => .int (-i)) (tC (.int 1)))) tNil))) (g := gName 4) (vs := [4]) (e := fun n : Nat => D.int ((lastP P).1 + (n : Int) * (-1))) (as := List.range (nTop P Q low)) (fun n => xD (topX P Q n))
    (wi_down (av_cons (ev_pr0 (po_last hn hz (ev_var rfl))) (av_cons (ev_subI (ev_addI (ev_var rfl) (ev_call (Es := WE W) (t := tCons (tVar 1) tNil) (d := .int (spP Q)) (av_cons (ev_var rfl) av_nil) (show frspread [dq] _ from ⟨dq, Q, hd, hD.nq, rfl, rfl⟩))) ev_int) (av_cons (ev_neg ev_int) av_nil))) (by omega) (by omega))
    (fun n _ => ⟨[4], _, tg_name, by simp, ev_tup (av_cons (ev_var rfl) (av_cons (po_last hD.nq hd (ev_var rfl)) av_nil)) le2⟩) (by rw [List.length_range]; omega)
  refine sv_seq (sv_asgL c1) (sv_frz 3 rfl rfl ?_)
  have c2 := evl_map (K := K) (wi := iRng2 (tCons (tOp (rIxA K) (tOp (rIxA K) (tVar 0) (tC (.int 0))) (tC (.int 0))) (tCons (tVar 2) tNil))) (ρ := [.d (ePolyZ P), .d dq, .d (.int low), .d (.lst ((List.range (nTop P Q low)).map fun n => xD (topX P Q n))), .no, .no, .no, .no, .no, .no, .no, .no, .no, .no, .no, .no]) (te := tTup (tCons (tVar 4) (tCons (tOp (rIxA K) (tVar 1) (tC (.int 0))) tNil))) (g := gName 4) (vs := [4]) (e := fun n : Nat => D.int (fstS P + (n : Int))) (as := List.range (nBot P low)) (fun n => xD (botX P Q n))
    (wi_rng2 (av_cons (ev_pr0 (po_first hn hz (ev_var rfl))) (av_cons (ev_var rfl) av_nil)) (by show -(2 ^ 62) ≤ fstS P ∧ fstS P < 2 ^ 62; omega) (by omega))
    (fun n _ => ⟨[4], _, tg_name, by simp, ev_tup (av_cons (ev_var rfl) (av_cons (po_first hD.nq hd (ev_var rfl)) av_nil)) le2⟩) (by rw [List.length_range]; omega)
  refine sv_seq (sv_asgL (evl_addL (ev_var rfl) (ev_of_L c2) (by rw [List.length_map, List.length_map, List.length_range, List.length_range]; omega))) (sv_frz 3 rfl rfl ?_)
  have eS : ((List.range (nTop P Q low)).map fun n => xD (topX P Q n)) ++ ((List.range (nBot P low)).map fun n => xD (botX P Q n)) = (stepsM P Q low).map xD := by
    unfold stepsM; rw [List.map_append, List.map_map, List.map_map]; rfl
  show SvD K W _ [.d (ePolyZ P), .d dq, .d (.int low), .d (.lst (((List.range (nTop P Q low)).map fun n => xD (topX P Q n)) ++ ((List.range (nBot P low)).map fun n => xD (botX P Q n)))), .no, .no, .no, .no, .no, .no, .no, .no, .no, .no, .no, .no] _
  rw [eS]
  have dP : EvD K (tVar 0) [.d (ePolyZ P), .d dq, .d (.int low), .d (.lst ((stepsM P Q low).map xD)), .no, .no, .no, .no, .no, .no, .no, .no, .no, .no, .no, .no] (.tupZ ((encI P).map fun kv => .tup [kD kv.1, kv.2])) := by
    rw [items_eP]; exact ev_var rfl
  have ndP : ((encI P).map (·.1)).Nodup := by
    have : (encI P).map (·.1) = (P.map (·.1)).map Sum.inl := by unfold encI; rw [List.map_map, List.map_map]; rfl
    rw [this]; exact List.pairwise_map.mpr ((nodup_can hD.cp).imp fun {x y} hxy e => hxy (Sum.inl.inj e))
  refine sv_seq (sv_asgDN (evdn_dict dP ndP)) (sv_seq sv_asgDK (sv_seq (sv_asg ev_int) ?_))
  show SvD K W _ (encD P dq low (stepsM P Q low) (begD P)) _
  have sl := steps_len hD
  have run := run_dv (K := K) (W := W) (P := P) (low := low) (S := stepsM P Q low) hD.cq hd hD.bq hD.lq (stepsM P Q low) 0 (begD P) (steps_q hD.nq) (wi_beg hD) (by omega)
  have fin := wi_fold hD.cq hD.bq hD.lq (stepsM P Q low) 0 (begD P) (steps_q hD.nq) (wi_beg hD)
  have hf : (stepsM P Q low).foldl (stepD Q) (begD P) = runD P Q low := rfl
  rw [hf] at run fin
  refine sv_seq (sv_for (wi_seqL (wi_list (ev_var rfl))) run) ?_
  have f1 := fin.lf
  have f2 := fin.lr
  have i1 : EvL K (tItemsR (tVar 6)) (encD P dq low (stepsM P Q low) (runD P Q low)) ((runD P Q low).fac.map pT) := by rw [← items_eP]; exact evl_items (dk_own rfl)
  have i2 : EvL K (tItemsR (tVar 5)) (encD P dq low (stepsM P Q low) (runD P Q low)) ((runD P Q low).rest.map pT) := by rw [← items_eP]; exact evl_items (dk_own rfl)
  exact sv_ret (ev_tup (av_cons (ev_var rfl) (av_cons (ev_call (av_cons (ev_of_L i1) av_nil) (show frcleaned _ _ from ⟨_, (runD P Q low).fac, ⟨_, isPrs_T _, .inl rfl⟩, by omega, rfl, rfl⟩)) (av_cons (ev_call (av_cons (ev_of_L i2) av_nil) (show frcleaned _ _ from ⟨_, (runD P Q low).rest, ⟨_, isPrs_T _, .inl rfl⟩, by omega, rfl, rfl⟩)) av_nil))) le3)
theorem ev_clean {ps : List Pr} (h : EvD K te ρ d) (hd : IsPairs d ps) (hl : ps.length ≤ 4000000) : EvD K (tCallS (SpF K Pcleaned.length frcleaned) (WE W) (tCons te tNil)) ρ (ePolyZ (polyM ps)) := ev_call (av_cons h av_nil) ⟨d, ps, hd, hl, rfl, rfl⟩
theorem pr_poly_divided (W : WX) (ds : List D) (r : Res) (h : frpoly_divided K ds r) : FnEnd K W (tpoly_divided K W) (entry Npoly_divided ds) r := by
  obtain ⟨d, e, ps, qs, hd, he, lp, lq, rfl, h⟩ := h
  left
  have hz : ∀ P, IsPoly (ePolyZ P) P := fun P => .inr rfl
  have h1 : SvD K W (tAsg (tCallS (SpF K Pcleaned.length frcleaned) (WE W) (tCons (tVar 1) tNil)) (gName 2)) [.d d, .d e, .no] (.nx [.d d, .d e, .d (ePolyZ (polyM qs))]) := sv_asg (ev_clean (ev_var rfl) he (by omega))
  rcases h with ⟨hD, rfl⟩ | ⟨hn, rfl⟩
  · show SvD K W (tpoly_divided K W) [.d d, .d e, .no] _
    unfold tpoly_divided
    exact sv_seq h1 (sv_seq (sv_ifF (tv_eq (tv_noP (hz (polyM qs)) (ev_var rfl)) (emp_false hD.nq)) sv_next) (sv_ret (ev_call (av_cons (ev_clean (ev_var rfl) hd (by omega)) (av_cons (ev_var rfl) (av_cons ev_int av_nil))) (show frdivided _ _ from ⟨_, polyM ps, polyM qs, 0, hD, hz _, rfl, rfl⟩))))
  · refine ⟨[.d d, .d e, .d (ePolyZ (polyM qs))], ?_⟩
    show SvD K W (tpoly_divided K W) [.d d, .d e, .no] _
    unfold tpoly_divided
    exact sv_seq h1 (sv_stop (sv_ifT (tv_eq (tv_noP (hz (polyM qs)) (ev_var rfl)) (by rw [hn]; rfl)) sv_raiseD))
theorem pr_divides (W : WX) (ds : List D) (r : Res) (h : frdivides ds r) : FnEnd K W (tdivides K W) (entry Ndivides ds) r := by
  obtain ⟨d, e, ps, qs, hd, he, lp, lq, hD, rfl, rfl⟩ := h
  left
  have hz : ∀ P, IsPoly (ePolyZ P) P := fun P => .inr rfl
  show SvD K W (tdivides K W) [.d e, .d d, .no, .no] _
  unfold tdivides
  refine sv_seq (sv_asg (ev_clean (ev_var rfl) he (by omega))) (sv_seq (sv_asg (ev_clean (ev_var rfl) hd (by omega))) ?_)
  have em : ∀ P : List Pr, (P.map pT).isEmpty = P.isEmpty := fun P => by cases P <;> rfl
  by_cases hn : polyM qs = []
  · refine sv_stop (sv_ifT (tv_eq (tv_noP (hz (polyM qs)) (ev_var rfl)) (by rw [hn]; rfl)) (sv_retE (ev_notT (st_po (hz (polyM ps)) (ev_var rfl))) ?_))
    unfold dvs; rw [if_pos hn, em]
  · refine sv_seq (sv_ifF (tv_eq (tv_noP (hz (polyM qs)) (ev_var rfl)) (emp_false hn)) sv_next) ?_
    have hD' : DOk (polyM ps) (polyM qs) 0 := by
      rcases hD with z | z
      · exact absurd z hn
      · exact z
    have hv : EvD K (tCallS (SpF K Pdivided.length frdivided) (WE W) (tCons (tVar 3) (tCons (tVar 2) (tCons (tC (.int 0)) tNil)))) [.d e, .d d, .d (ePolyZ (polyM qs)), .d (ePolyZ (polyM ps))] (eDiv (polyM ps) (polyM qs) 0) := ev_call (av_cons (ev_var rfl) (av_cons (ev_var rfl) (av_cons ev_int av_nil))) (show frdivided _ _ from ⟨_, polyM ps, polyM qs, 0, hD', hz _, rfl, rfl⟩)
    by_cases hp : polyM ps = []
    · have e1 : eDiv (polyM ps) (polyM qs) 0 = .tup [.int 1, .tup [], .tup []] := by unfold eDiv; rw [if_pos hp]
      rw [e1] at hv
      refine sv_retE (ev_notT (ds := []) (st_d (ev_ixT (i := 2) (st_d hv) ev_int rfl))) ?_
      unfold dvs; rw [if_neg hn, if_pos hp]; rfl
    · have e1 : eDiv (polyM ps) (polyM qs) 0 = .tup [.int (runD (polyM ps) (polyM qs) 0).scale, ePolyZ (divF (polyM ps) (polyM qs) 0), ePolyZ (divR (polyM ps) (polyM qs) 0)] := by unfold eDiv; rw [if_neg hp]
      rw [e1] at hv
      refine sv_retE (ev_notT (st_dZ (ev_ixT (i := 2) (st_d hv) ev_int rfl))) ?_
      unfold dvs; rw [if_neg hn, if_neg hp, em]
end
end Go
set_option Elab.async false
set_option linter.all false
set_option maxRecDepth 100000
set_option maxHeartbeats 1000000
namespace Go
open PySem PySem.Spec PyProof.Rows L2 DL
section
variable {K : PySem.W.Frag} {W : WX} {ρ : List Sl} {te ta tb : TE} {d : D}
theorem ev_bits {i : Int} (h : EvD K te ρ (.int i)) : EvD K (tBits te) ρ (.int ((Builtin.Int.intBits i : Nat) : Int)) := fun F0 H0 F H σ R Q q => h F0 H0 F H σ R _ fun v F1 H1 g1 r1 => by
  cases r1
  exact ⟨i, rfl, q _ F1 H1 g1 (.int _)⟩
theorem bits_lt (n : Nat) : n < 2 ^ (Builtin.Int.intBits (n : Int)) := by
  unfold Builtin.Int.intBits
  by_cases z : ((n : Int) == 0) = true
  · rw [if_pos z]
    have : n = 0 := by have := beq_iff_eq.mp z; omega
    subst this; decide
  · rw [if_neg z]
    show n < 2 ^ (Nat.log2 ((n : Int).natAbs) + 1)
    rw [Int.natAbs_natCast]
    exact Nat.lt_log2_self
theorem bits_le {n B : Nat} (h : n < 2 ^ B) : Builtin.Int.intBits (n : Int) ≤ B := by
  unfold Builtin.Int.intBits
  split
  · exact Nat.zero_le _
  · rename_i z
    have n0 : n ≠ 0 := fun e => by subst e; exact z rfl
    show Nat.log2 ((n : Int).natAbs) + 1 ≤ B
    rw [Int.natAbs_natCast]
    exact (Nat.log2_lt n0).mpr h
/-! ### Euclid -/
def encGc (a b : Int) (x y : Nat) : List Sl := [.d (.int a), .d (.int b), .d (.int (x : Int)), .d (.int (y : Int)), .no, .no]
abbrev tbGc (K : PySem.W.Frag) : TS := (tSeq (tIfS (tTest (tOp (rEqD K) (tVar 3) (tC (.int 0)))) (tRet (tVar 2)) tNext)
    (tSeq (tAsg (tOp (rI (fun _ j => 0 < j) fun i j => .int (i % j)) (tCB rIntC (tCons (tVar 2) tNil)) (tVar 3)) (gName 5))
    (tSeq (tAsg (tVar 3) (gName 2))
    (tAsg (tVar 5) (gName 3)))))
theorem turn_g0 (a b : Int) (x : Nat) (e : D) : Turn1 K W (gName 4) (tbGc K) e (encGc a b x 0) (.rt (.int (x : Int))) :=
  t1_name (sv_stop (sv_ifT (tv_eq (tv_eqI (ev_var rfl) ev_int) rfl) (sv_ret (ev_var rfl))))
theorem turn_g1 (a b : Int) (x y : Nat) (hy : 0 < y) (e : D) : Turn1 K W (gName 4) (tbGc K) e (encGc a b x y) (.nx (encGc a b y (x % y))) := by
  have z : ((y : Int) == 0) = false := beq_eq_false_iff_ne.mpr (by omega)
  refine t1_name (sv_nx (sv_seq (sv_ifF (tv_eq (tv_eqI (ev_var rfl) ev_int) z) sv_next) (sv_seq (sv_asg (d := .int ((x % y : Nat) : Int)) (ev_eq (ev_modI (ev_intC (ev_var rfl)) (ev_var rfl) (by omega)) (by congr 1))) (sv_seq (sv_asg (ev_var rfl)) (sv_asg (ev_var rfl))))) [4, 5] ?_)
  rfl
theorem run_gcd (a b : Int) : ∀ (j : Nat) (x y : Nat) (ds : List D), y < 2 ^ j → 2 * j + 1 ≤ ds.length → Run (Turn1 K W (gName 4) (tbGc K)) ds (encGc a b x y) (.rt (.int ((Nat.gcd x y : Nat) : Int)))
  | 0, x, y, ds, hy, hl => by
    have : y = 0 := by simpa using hy
    subst this
    cases ds with
    | nil => simp at hl
    | cons e ds => rw [Nat.gcd_zero_right]; exact .rt (turn_g0 a b x e)
  | j + 1, x, y, ds, hy, hl => by
    cases ds with
    | nil => simp at hl
    | cons e ds =>
      rw [List.length_cons] at hl
      by_cases y0 : y = 0
      · subst y0
        rw [Nat.gcd_zero_right]; exact .rt (turn_g0 a b x e)
      · refine .go (turn_g1 a b x y (by omega) e) ?_
        cases ds with
        | nil => simp at hl
        | cons e2 ds =>
          rw [List.length_cons] at hl
          have hm := Nat.mod_lt x (show 0 < y by omega)
          have eg : Nat.gcd x y = Nat.gcd y (x % y) := by rw [Nat.gcd_comm x y, Nat.gcd_rec, Nat.gcd_comm]
          rw [eg]
          by_cases c0 : x % y = 0
          · rw [c0, Nat.gcd_zero_right]; exact .rt (turn_g0 a b y e2)
          · refine .go (turn_g1 a b y (x % y) (by omega) e2) ?_
            have eg2 : Nat.gcd y (x % y) = Nat.gcd (x % y) (y % (x % y)) := by rw [Nat.gcd_comm y, Nat.gcd_rec, Nat.gcd_comm]
            rw [eg2]
            exact run_gcd a b j _ _ ds (euclid_half (by omega) hm hy) (by omega)
theorem abs_is (a : Int) : (if a < 0 then -a else a) = (a.natAbs : Int) := by split <;> omega
theorem pr_law_gcd (W : WX) (ds : List D) (r : Res) (h : fr_law_gcd ds r) : FnEnd K W (t_law_gcd K W) (entry N_law_gcd ds) r := by
  obtain ⟨a, b, hb, rfl, rfl⟩ := h
  left
  show SvD K W (t_law_gcd K W) [.d (.int a), .d (.int b), .no, .no, .no, .no] _
  unfold t_law_gcd
  have hl := bits_le hb
  have hy := bits_lt b.natAbs
  refine sv_seq (sv_asg (d := .int (a.natAbs : Int)) (ev_eq (ev_absC (ev_var rfl)) (by rw [abs_is]))) (sv_seq (sv_asg (d := .int (b.natAbs : Int)) (ev_eq (ev_absC (ev_var rfl)) (by rw [abs_is]))) ?_)
  refine sv_stop (sv_for (wi_rng1 (j := 2 * ((Builtin.Int.intBits (b.natAbs : Int) : Nat) : Int) + 2) (av_cons (ev_addI (ev_mulI ev_int (ev_bits (ev_var rfl)) (mul_s (by decide) (by omega))) ev_int) av_nil) (by omega) (by omega)) (run_gcd a b _ a.natAbs b.natAbs _ hy ?_))
  rw [rngD_length]; omega
end
end Go
set_option Elab.async false
set_option linter.all false
set_option maxRecDepth 100000
set_option maxHeartbeats 1000000
namespace Go
open PySem PySem.Spec PyProof.Rows L2 DL
section
variable {K : PySem.W.Frag} {W : WX} {ρ : List Sl} {te ta tb : TE} {d : D}
theorem ev_cell {ns : List Int} {k : Nat} (h : EvD K ta ρ (.scr ns)) (hb : EvD K tb ρ (.int (k : Int))) (hk : k ≤ 100000) : EvD K (tCallS (SpF K P_law_cell.length fr_law_cell) (WE W) (tCons ta (tCons tb tNil))) ρ (.int (cellM ns k)) := ev_call (av_cons h (av_cons hb av_nil)) ⟨ns, k, hk, rfl, rfl⟩
theorem ev_digits {c : Int} {sz : List Int} (h : EvD K ta ρ (.int c)) (hb : EvD K tb ρ (.lst (sz.map D.int))) (hs : ∀ s ∈ sz, 0 < s ∧ s < 1073741824) (hl : sz.length ≤ 5000) : EvD K (tCallS (SpF K P_law_digits.length fr_law_digits) (WE W) (tCons ta (tCons tb tNil))) ρ (.lst ((digM c sz).map D.int)) := ev_call (av_cons h (av_cons hb av_nil)) ⟨c, sz, hs, hl, rfl, rfl⟩
end
end Go
set_option Elab.async false
set_option linter.all false
set_option maxRecDepth 100000
set_option maxHeartbeats 1000000
namespace Go
open PySem PySem.Spec PyProof.Rows L2 DL
section
variable {K : PySem.W.Frag} {W : WX} {ρ : List Sl} {te ta tb : TE} {d : D}
theorem isPrs_append : ∀ {ds es : List D} {a b : List Pr}, IsPrs ds a → IsPrs es b → IsPrs (ds ++ es) (a ++ b)
  | _, _, _, _, .nil, h => h
  | _, _, _, _, .lst h, h' => .lst (isPrs_append h h')
  | _, _, _, _, .tup h, h' => .tup (isPrs_append h h')
theorem keys_eP (P : List Pr) : KeysD (ePDict P) (P.map fun p => D.int p.1) := .inl ⟨_, _, rfl, by rw [List.map_map]; rfl⟩
theorem get_eP {P : List Pr} (h : PCan P) {p : Pr} (hp : p ∈ P) : gget (encI P) (.inl p.1) = some (.int p.2) := by rw [gget_encI, gget_of_memI (asc_nodup h.lt) hp]; rfl
theorem ev_getP {P : List Pr} (h : EvD K ta ρ (ePDict P)) (hc : PCan P) {p : Pr} (hp : p ∈ P) (hk : EvD K tb ρ (.int p.1)) : EvD K (tDGet ta tb) ρ (.int p.2) := ev_dgetK (k := .inl p.1) (evdk_eP h) hk (get_eP hc hp)
theorem pr_law_add (W : WX) (ds : List D) (r : Res) (h : fr_law_add ds r) : FnEnd K W (t_law_add K W) (entry N_law_add ds) r := by
  obtain ⟨P, Q, hP, hQ, lP, lQ, bQ, rfl, rfl⟩ := h
  left
  show SvD K W (t_law_add K W) [.d (ePDict P), .d (ePDict Q), .d (.int 1), .no] _
  have h1 : EvL K (tItemsR (tVar 0)) [.d (ePDict P), .d (ePDict Q), .d (.int 1), .no] (P.map pT) := by
    rw [← items_eP]; exact evl_items (evdk_eP (ev_var rfl))
  have h2 : EvL K (tLockEA (tLc (iSeq K (tVar 1)) (gName 3) tYes (tTup (tCons (tVar 3) (tCons (tOp rMulA (tVar 2) (tDGet (tVar 1) (tVar 3))) tNil))) [3])) [.d (ePDict P), .d (ePDict Q), .d (.int 1), .no] (Q.map fun q => pT q) :=
    evl_mapKeys (e := fun p : Pr => D.int p.1) (fun q => pT q) rfl (keys_eP Q) (fun q hq => ⟨[3], _, tg_name, by simp, ev_tup (av_cons (ev_var rfl) (av_cons (ev_eq (ev_mulI (ev_var rfl) (ev_getP (ev_var rfl) hQ hq (ev_var rfl)) (mul_ok (i := 1) 1 20000000 (by decide) (bQ q hq) (by decide))) (by rw [Int.one_mul])) av_nil)) le2⟩) (by omega)
  have h3 := ev_of_L (evl_addL (ev_of_L h1) (ev_of_L h2) (by rw [List.length_map, List.length_map]; omega))
  exact sv_ret (ev_call (av_cons h3 av_nil) ⟨_, P ++ Q, ⟨_, isPrs_append (isPrs_T P) (isPrs_T Q), .inl rfl⟩, by rw [List.length_append]; omega, rfl, rfl⟩)
def encPM (P Q : List Pr) (a : List (Int × Int)) (x : Sl) : List Sl := [.d (ePDict P), .d (ePDict Q), .ok (encI a), x, .no]
abbrev tbPM (K : PySem.W.Frag) : TS := sDPut (tVar 2) (tOp (rAddA K) (tVar 3) (tVar 4)) (tOp (rAddA K) (tDGet2 (tVar 2) (tOp (rAddA K) (tVar 3) (tVar 4)) (tC (.int 0))) (tOp rMulA (tDGet (tVar 0) (tVar 3)) (tDGet (tVar 1) (tVar 4))))
def mulQ (p q : Pr) : Pr := (p.1 + q.1, p.2 * q.2)
theorem run_pm1 {P Q : List Pr} (hP : PCan P) (hQ : PCan Q) (bP : BdP 20000000 P) (bQ : BdP 20000000 Q) {p : Pr} (hp : p ∈ P) : ∀ (M : List Pr) (a : List (Int × Int)), (∀ q ∈ M, q ∈ Q) → a.length + M.length ≤ 4000000 →
    Run (Turn1 K W (gName 4) (tbPM K)) (M.map fun p => D.int p.1) (encPM P Q a (.d (.int p.1))) (.nx (encPM P Q (accP a (M.map (mulQ p))) (.d (.int p.1))))
  | [], a, _, _ => .nil
  | q :: M, a, hm, hl => by
    rw [List.length_cons] at hl
    have hs : (stepP a (mulQ p q)).length ≤ a.length + 1 := gput_length _ _ a
    have ih := run_pm1 hP hQ bP bQ hp M (stepP a (mulQ p q)) (fun u hu => hm u (List.mem_cons_of_mem _ hu)) (by omega)
    have hq := hm q List.mem_cons_self
    have hk : EvD K (tOp (rAddA K) (tVar 3) (tVar 4)) [.d (ePDict P), .d (ePDict Q), .ok (encI a), .d (.int p.1), .d (.int q.1)] (kD (.inl (p.1 + q.1))) := ev_addI (ev_var rfl) (ev_var rfl)
    refine .go (t1_name (sv_nx (sv_putK (k := .inl (p.1 + q.1)) (d := .int ((gget a (p.1 + q.1)).getD 0 + p.2 * q.2)) rfl (ev_addI (ev_eq (ev_get2K (dk_own rfl) hk ev_int) (get2_encI _ _)) (ev_mulI (ev_getP (ev_var rfl) hP hp (ev_var rfl)) (ev_getP (ev_var rfl) hQ hq (ev_var rfl)) (mul_ok 20000000 20000000 (bP p hp) (bQ q hq) (by decide)))) hk (gputI_len (by omega))) [4] ?_)) ih
    rw [gput_encI]; rfl
theorem accP_append (a : List (Int × Int)) (x y : List Pr) : accP a (x ++ y) = accP (accP a x) y := List.foldl_append
theorem run_pm {P Q : List Pr} (hP : PCan P) (hQ : PCan Q) (bP : BdP 20000000 P) (bQ : BdP 20000000 Q) : ∀ (M : List Pr) (a : List (Int × Int)), (∀ p ∈ M, p ∈ P) → a.length + M.length * Q.length ≤ 4000000 →
    Run (Turn1 K W (gName 3) (tLockA (tFor (iSeq K (tVar 1)) (gName 4) (tbPM K)))) (M.map fun p => D.int p.1) (encPM P Q a .no) (.nx (encPM P Q (accP a (mulP M Q)) .no))
  | [], a, _, _ => .nil
  | p :: M, a, hq, hl => by
    rw [List.length_cons, Nat.add_mul, Nat.one_mul] at hl
    have h1 := accP_len (Q.map (mulQ p)) a
    rw [List.length_map] at h1
    have ih := run_pm hP hQ bP bQ M (accP a (Q.map (mulQ p))) (fun u hu => hq u (List.mem_cons_of_mem _ hu)) (by omega)
    have e1 : accP a (mulP (p :: M) Q) = accP (accP a (Q.map (mulQ p))) (mulP M Q) := by rw [← accP_append]; rfl
    rw [e1]
    refine .go (t1_name (sv_nx (sv_forKeys (s := 1) (u0 := ePDict Q) rfl (keys_eP Q) (run_pm1 hP hQ bP bQ (hq p List.mem_cons_self) Q a (fun _ h => h) (by omega)) (fun _ _ _ z => nomatch z)) [3] ?_)) ih
    rfl
theorem po_acc (ps : List Pr) : polyM (accP [] ps) = polyM ps := poly_eq fun k => by
  rw [cp_wt, cp_wt, wt_acc]
  show (0 : Int) + _ = _; omega
theorem pr_law_mul (W : WX) (ds : List D) (r : Res) (h : fr_law_mul ds r) : FnEnd K W (t_law_mul K W) (entry N_law_mul ds) r := by
  obtain ⟨P, Q, hP, hQ, lP, lQ, bP, bQ, rfl, rfl⟩ := h
  left
  show SvD K W (t_law_mul K W) [.d (ePDict P), .d (ePDict Q), .no, .no, .no] _
  have lM : (mulP P Q).length ≤ 1000000 := by
    rw [len_mulP]
    exact Nat.le_trans (Nat.mul_le_mul lP lQ) (by decide)
  have ha := accP_len (mulP P Q) []
  have e0 : (([] : List (Int × Int))).length = 0 := rfl
  rw [e0] at ha
  unfold t_law_mul
  refine sv_seq sv_asgDK (sv_seq (sv_forKeys (s := 0) (u0 := ePDict P) rfl (keys_eP P) (run_pm hP hQ bP bQ P [] (fun _ h => h) (by rw [e0, ← len_mulP]; omega)) (fun _ _ _ z => nomatch z)) ?_)
  have h1 : EvL K (tItemsR (tVar 2)) (encPM P Q (accP [] (mulP P Q)) .no) ((accP [] (mulP P Q)).map pT) := by
    rw [← items_eP]; exact evl_items (dk_own rfl)
  refine sv_ret (ev_eq (ev_call (d := ePDict (polyM (accP [] (mulP P Q)))) (av_cons (ev_of_L h1) av_nil) ⟨_, accP [] (mulP P Q), ⟨_, isPrs_T _, .inl rfl⟩, by omega, rfl, rfl⟩) (by rw [po_acc]))
theorem encI_keysP (P : List Pr) : ((encI P).map fun kv => kD kv.1) = (P.map (·.1)).map D.int := by unfold encI; rw [List.map_map, List.map_map]; rfl
theorem ev_pl0 {p : Pr} (h : EvD K te ρ (pL p)) : EvD K (tOp (rIxA K) te (tC (.int 0))) ρ (.int p.1) := ev_ixL (i := 0) (sl_d h) ev_int rfl
theorem ev_pl1 {p : Pr} (h : EvD K te ρ (pL p)) : EvD K (tOp (rIxA K) te (tC (.int 1))) ρ (.int p.2) := ev_ixL (i := 1) (sl_d h) ev_int rfl
/-! ### drawn pairs -/
def encDr (row : List Int) (k : Nat) : List Sl := [.d (.lst (row.map D.int)), .ol ((menuR row).map D.int), .d (.int (manyR row)), .d (.int (wideR row)), .ol (((List.range k).map (pairR row)).map pL), .no, .no, .no, .no, .no]
theorem lcP {i : Nat} {g : TE} (f : Pr → Pr) {ps : List Pr} (hw : EvD K te ρ (.lst (ps.map pL))) (hl : ps.length ≤ 100000) (h : ∀ p ∈ ps, EvD K g ((wipeS ρ [i]).set i (.d (pL p))) (pL (f p))) : EvD K (tLc (iSeq K te) (gName i) tYes g [i]) ρ (.lst ((ps.map f).map pL)) := by
  rw [List.map_map]
  exact ev_of_L (evl_map (e := pL) (pL ∘ f) (wi_seqL (wi_list hw)) (fun p hp => ⟨[i], _, tg_name, by simp, h p hp⟩) (by omega))
theorem lcI {i : Nat} {g : TE} (f : Pr → Int) {ps : List Pr} (hw : EvD K te ρ (.lst (ps.map pL))) (hl : ps.length ≤ 100000) (h : ∀ p ∈ ps, EvD K g ((wipeS ρ [i]).set i (.d (pL p))) (.int (f p))) : EvD K (tLc (iSeq K te) (gName i) tYes g [i]) ρ (.lst ((ps.map f).map D.int)) := by
  rw [List.map_map]
  exact ev_of_L (evl_map (e := pL) (D.int ∘ f) (wi_seqL (wi_list hw)) (fun p hp => ⟨[i], _, tg_name, by simp, h p hp⟩) (by omega))
theorem pr_law_drawn (W : WX) (ds : List D) (r : Res) (h : fr_law_drawn ds r) : FnEnd K W (t_law_drawn K W) (entry N_law_drawn ds) r := by
  obtain ⟨row, hr, rfl, rfl⟩ := h
  left
  show SvD K W (t_law_drawn K W) [.d (.lst (row.map D.int)), .no, .no, .no, .no, .no, .no, .no, .no, .no] _
  have lr : row.length = 166 := by rw [hr.1]; decide +kernel
  obtain ⟨m0, m1⟩ := manyR_bound hr
  have r0 := row_at (k := 0) (s := 12) hr (by decide +kernel)
  have r3 := row_at (k := 3) (s := 8) hr (by decide +kernel)
  have r5 := row_at (k := 5) (s := 4) hr (by decide +kernel)
  have lB : ∀ s ∈ szR, s ≤ 100000 := by decide +kernel
  have t0 : ∀ n : Nat, n < 12 → 0 ≤ nth [0, 1, 2, 2, 3, 3, 3, 3, 3, 3, 3, 4] n ∧ nth [0, 1, 2, 2, 3, 3, 3, 3, 3, 3, 3, 4] n < 5 := by decide
  have t3 : ∀ n : Nat, n < 8 → 0 < nth [3, 4, 5, 6, 8, 12, 1, 41] n := by decide
  have wp : 0 < wideR row := t3 _ (by omega)
  have t5 : ∀ n : Nat, n < 4 → (nth [2, -3, 1000, 12] n).natAbs < 2 ^ 10 := by decide
  have fb : (facQ row).natAbs < 2 ^ 10 := t5 _ (by omega)
  have hrw : EvSL K (tVar 0) [.d (.lst (row.map D.int)), .no, .no, .no, .no, .no, .no, .no, .no, .no] (row.map D.int) := sl_d (ev_var rfl)
  unfold t_law_drawn
  refine sv_seq (sv_asgL (xs := (menuR row).map D.int) (evl_lst (av_cons (ev_nth (k := 1) hrw ev_int (by omega)) (av_cons ev_int (av_cons (ev_modI (ev_intC (ev_nth (k := 1) hrw ev_int (by omega))) ev_int (by decide)) (av_cons (ev_addI ev_int (ev_modI (ev_intC (ev_nth (k := 1) hrw ev_int (by omega))) ev_int (by decide))) (av_cons (ev_modI (ev_intC (ev_nth (k := 1) hrw ev_int (by omega))) ev_int (by decide)) av_nil))))) le5)) ?_
  refine sv_seq (sv_asg (d := .int (manyR row)) (ev_nthI (l := menuR row) (sl_own rfl)
    (ev_nthI (l := [0, 1, 2, 2, 3, 3, 3, 3, 3, 3, 3, 4]) (sl_d (ev_of_L (evl_lst (av_cons ev_int (av_cons ev_int (av_cons ev_int (av_cons ev_int (av_cons ev_int (av_cons ev_int (av_cons ev_int (av_cons ev_int (av_cons ev_int (av_cons ev_int (av_cons ev_int (av_cons ev_int av_nil)))))))))))) (by decide)))) (ev_nth (k := 0) (sl_d (ev_var rfl)) ev_int (by omega)) r0.1 (by show nth row 0 < 12; omega)) (t0 _ (by omega)).1 (t0 _ (by omega)).2)) ?_
  refine sv_seq (sv_asg (d := .int (wideR row)) (ev_nthI (l := [3, 4, 5, 6, 8, 12, 1, 41]) (sl_d (ev_of_L (evl_lst (av_cons ev_int (av_cons ev_int (av_cons ev_int (av_cons ev_int (av_cons ev_int (av_cons ev_int (av_cons ev_int (av_cons ev_int av_nil)))))))) (by decide)))) (ev_nth (k := 3) (sl_d (ev_var rfl)) ev_int (by omega)) r3.1 (by show nth row 3 < 8; omega))) ?_
  refine sv_seq (sv_asgL (evl_lst (K := K) av_nil (by decide))) ?_
  refine sv_seq (sv_for (wi_rng1 (av_cons (ev_var rfl) av_nil) (by omega) (by omega)) (run_all (encDr row) _ fun k e he => ?_)) ?_
  · have hk : k < (manyR row).toNat := by have := (List.getElem?_eq_some_iff.mp he).1; rw [rngD_length] at this; exact this
    have e2 := rngD_get he
    rw [Int.zero_add] at e2
    subst e2
    have hcut : EvL K (tSl (rSlAny K) (tVar 0) (tPart (tOp (rAddA K) (tC (.int 6)) (tOp rMulA (tC (.int 4)) (tVar 5)))) (tPart (tOp (rAddA K) (tC (.int 10)) (tOp rMulA (tC (.int 4)) (tVar 5))))) ((encDr row k).set 5 (.d (.int (k : Int)))) (DL.cutD (row.map D.int) (some (6 + 4 * (k : Int))) (some (10 + 4 * (k : Int)))) :=
      evl_slL (sl_d (ev_var rfl)) (po_is (ev_addI ev_int (ev_mulI ev_int (ev_var rfl) (mul_s (by decide) (by omega))))) (po_is (ev_addI ev_int (ev_mulI ev_int (ev_var rfl) (mul_s (by decide) (by omega)))))
    have c1 : (6 + 4 * (k : Int)) = ((6 + 4 * k : Nat) : Int) := by omega
    have c2 : (10 + 4 * (k : Int)) = ((10 + 4 * k : Nat) : Int) := by omega
    refine t1_name (sv_nx (sv_seq (sv_asgL hcut) (sv_seq (sv_asg (d := .int (pairR row k).1) (ev_subI (ev_modI (ev_intC (ev_addI (ev_nth (k := 2) (sl_d (ev_var rfl)) ev_int (by omega)) (ev_modI (ev_intC (ev_dig (row := row) (lo := 6 + 4 * k) (hi := 10 + 4 * k) (j := 0) rfl c1 c2 ev_int (by omega) (by omega))) (ev_var rfl) wp))) ev_int (by decide)) ev_int))
      (sv_app (xs := ((List.range k).map (pairR row)).map pL) (d := pL (pairR row k)) rfl (ev_of_L (evl_lst (av_cons (ev_var rfl) (av_cons (ev_call (av_cons (ev_dig (row := row) (lo := 6 + 4 * k) (hi := 10 + 4 * k) (j := 1) rfl c1 c2 ev_int (by omega) (by omega)) (av_cons (ev_dig (row := row) (lo := 6 + 4 * k) (hi := 10 + 4 * k) (j := 2) rfl c1 c2 ev_int (by omega) (by omega)) (av_cons (ev_dig (row := row) (lo := 6 + 4 * k) (hi := 10 + 4 * k) (j := 3) rfl c1 c2 ev_int (by omega) (by omega)) av_nil))) ⟨_, _, _, ?_, ?_, ?_, ?_, rfl, rfl⟩) av_nil)) le2)) ?_))) [5, 6, 7] ?_)
    · exact (row_le hr lB (by rw [← hr.1]; omega)).1
    · exact (row_le hr lB (by rw [← hr.1]; omega)).2
    · exact (row_le hr lB (by rw [← hr.1]; omega)).1
    · exact (row_le hr lB (by rw [← hr.1]; omega)).2
    · rw [List.length_map, List.length_map, List.length_range]; omega
    · show _ = encDr row (k + 1)
      unfold encDr
      rw [List.range_succ, List.map_append, List.map_append]; rfl
  · rw [rngD_length]
    refine sv_frz 4 rfl rfl ?_
    show SvD K W _ [.d (.lst (row.map D.int)), .ol ((menuR row).map D.int), .d (.int (manyR row)), .d (.int (wideR row)), .d (.lst ((baseR row).map pL)), .no, .no, .no, .no, .no] _
    have hbl : (baseR row).length = (manyR row).toNat := by unfold baseR; rw [List.length_map, List.length_range]
    have hbb := bd_baseR row
    have hdr : drawnR row = if nth row 4 = 0 ∧ 2 * manyR row ≤ 40 then baseR row ++ negP (baseR row) else if nth row 4 = 1 ∧ 2 * manyR row ≤ 40 then negP ((baseR row).take (manyR row / 2).toNat) ++ baseR row else if nth row 4 = 2 ∧ (∀ p ∈ baseR row, (p.2 * facQ row).natAbs ≤ 1000000000) then sclP (facQ row) (baseR row) else baseR row := rfl
    rw [hdr]
    generalize hB : baseR row = B at hbl hbb
    refine sv_seq (sv_asg (d := .int (facQ row)) (ev_nthI (l := [2, -3, 1000, 12]) (sl_d (ev_of_L (evl_lst (av_cons ev_int (av_cons (ev_neg ev_int) (av_cons ev_int (av_cons ev_int av_nil)))) (by decide)))) (ev_nth (k := 5) (sl_d (ev_var rfl)) ev_int (by omega)) r5.1 (by show nth row 5 < 4; omega))) ?_
    show SvD K W _ [.d (.lst (row.map D.int)), .ol ((menuR row).map D.int), .d (.int (manyR row)), .d (.int (wideR row)), .d (.lst (B.map pL)), .no, .no, .no, .d (.int (facQ row)), .no] _
    generalize hρ : ([.d (.lst (row.map D.int)), .ol ((menuR row).map D.int), .d (.int (manyR row)), .d (.int (wideR row)), .d (.lst (B.map pL)), .no, .no, .no, .d (.int (facQ row)), .no] : List Sl) = ρ'
    have v4 : EvD K (tVar 4) ρ' (.lst (B.map pL)) := by subst hρ; exact ev_var rfl
    have vk : EvD K (tOp (rIxA K) (tVar 0) (tC (.int 4))) ρ' (.int (nth row 4)) := by subst hρ; exact ev_nth (k := 4) (sl_d (ev_var rfl)) ev_int (by omega)
    have v2 : EvD K (tVar 2) ρ' (.int (manyR row)) := by subst hρ; exact ev_var rfl
    have cN : ∀ (ps : List Pr) (te : TE), EvD K te ρ' (.lst (ps.map pL)) → ps.length ≤ 1000 → EvD K (tLc (iSeq K te) (gName 9) tYes (tLst (tCons (tOp (rIxA K) (tVar 9) (tC (.int 0))) (tCons (tUn (rU fun i => .int (-i)) (tOp (rIxA K) (tVar 9) (tC (.int 1)))) tNil))) [9]) ρ' (.lst ((negP ps).map pL)) := fun ps te h hl =>
      lcP (fun p => (p.1, -p.2)) h (by omega) fun p _ => by
        subst hρ
        exact ev_of_L (evl_lst (av_cons (ev_pl0 (p := p) (ev_var rfl)) (av_cons (ev_neg (ev_pl1 (p := p) (ev_var rfl))) av_nil)) le2)
    have ln : ∀ ps : List Pr, (negP ps).length = ps.length := fun ps => List.length_map _
    by_cases c1 : nth row 4 = 0 ∧ 2 * manyR row ≤ 40
    · rw [if_pos c1]
      refine sv_stop (sv_ifT (tv_and (a := true) (b := true) (tv_eq (tv_eqI vk ev_int) (by simpa using c1.1)) fun _ => tv_eq (tv_cmpI (g := fun i j => decide (i ≤ j)) (ev_mulI ev_int v2 (mul_s (by decide) (by omega))) ev_int) (by simpa using c1.2)) (sv_retE (ev_of_L (evl_addL v4 (cN B _ v4 (by omega)) (by rw [List.length_map, List.length_map, ln]; omega))) (by rw [List.map_append])))
    · rw [if_neg c1]
      refine sv_seq (sv_ifF (tv_eq (b := false) (tv_and (a := decide (nth row 4 = 0)) (b := decide (2 * manyR row ≤ 40)) (tv_eq (tv_eqI vk ev_int) (beqI _ _)) fun _ => tv_cmpI (g := fun i j => decide (i ≤ j)) (ev_mulI ev_int v2 (mul_s (by decide) (by omega))) ev_int) (by rw [← Bool.decide_and, decide_eq_false_iff_not]; exact c1)) sv_next) ?_
      by_cases c2 : nth row 4 = 1 ∧ 2 * manyR row ≤ 40
      · rw [if_pos c2]
        have vs : EvD K (tSl (rSlAny K) (tVar 4) tNoPart (tPart (tOp rDivA (tVar 2) (tC (.int 2))))) ρ' (.lst ((B.take (manyR row / 2).toNat).map pL)) := by
          refine ev_eq (ev_of_L (evl_slL (sl_d v4) po_no (po_is (ev_divI v2 ev_int ⟨by decide, by decide⟩)))) ?_
          have hq : (manyR row / 2) = (((manyR row / 2).toNat : Nat) : Int) := by omega
          unfold DL.cutD
          rw [hq, HT.sIx_none, HT.sIx_nat, Nat.min_eq_left (by rw [List.length_map]; omega), List.drop_zero, Nat.sub_zero, ← List.map_take]
          rfl
        refine sv_stop (sv_ifT (tv_and (a := true) (b := true) (tv_eq (tv_eqI vk ev_int) (by simpa using c2.1)) fun _ => tv_eq (tv_cmpI (g := fun i j => decide (i ≤ j)) (ev_mulI ev_int v2 (mul_s (by decide) (by omega))) ev_int) (by simpa using c2.2)) (sv_retE (ev_of_L (evl_addL (cN _ _ vs (by rw [List.length_take]; omega)) v4 (by rw [List.length_map, List.length_map, ln, List.length_take]; omega))) (by rw [List.map_append])))
      · rw [if_neg c2]
        refine sv_seq (sv_ifF (tv_eq (b := false) (tv_and (a := decide (nth row 4 = 1)) (b := decide (2 * manyR row ≤ 40)) (tv_eq (tv_eqI vk ev_int) (beqI _ _)) fun _ => tv_cmpI (g := fun i j => decide (i ≤ j)) (ev_mulI ev_int v2 (mul_s (by decide) (by omega))) ev_int) (by rw [← Bool.decide_and, decide_eq_false_iff_not]; exact c2)) sv_next) ?_
        have cA : EvD K (tLc (iSeq K (tVar 4)) (gName 9) tYes (tCB rAbsC (tCons (tOp rMulA (tOp (rIxA K) (tVar 9) (tC (.int 1))) (tVar 8)) tNil)) [9]) ρ' (.lst ((B.map fun t => if t.2 * facQ row < 0 then -(t.2 * facQ row) else t.2 * facQ row).map D.int)) :=
          lcI (fun t => if t.2 * facQ row < 0 then -(t.2 * facQ row) else t.2 * facQ row) v4 (by omega) fun p hp => by
            subst hρ
            exact ev_absC (ev_mulI (ev_pl1 (p := p) (ev_var rfl)) (ev_var rfl) (mul_ok 30 10 (hbb p hp) fb (by decide)))
        obtain ⟨m, hm1, hm2⟩ := max_of (B.map fun t => if t.2 * facQ row < 0 then -(t.2 * facQ row) else t.2 * facQ row)
        have vm : EvD K (tCB (rMax K) (tCons (tOp (rAddA K) (tLst (tCons (tC (.int 0)) tNil)) (tLc (iSeq K (tVar 4)) (gName 9) tYes (tCB rAbsC (tCons (tOp rMulA (tOp (rIxA K) (tVar 9) (tC (.int 1))) (tVar 8)) tNil)) [9])) tNil)) ρ' (.int m) :=
          ev_maxL (ns := 0 :: (B.map fun t => if t.2 * facQ row < 0 then -(t.2 * facQ row) else t.2 * facQ row)) (sl_d (ev_of_L (evl_addL (ev_of_L (evl_lst (av_cons ev_int av_nil) (by decide))) cA (by rw [List.length_map, List.length_map]; simp; omega)))) hm1 hm2
        have hall : decide (m ≤ 1000000000) = decide (∀ t ∈ B, (t.2 * facQ row).natAbs ≤ 1000000000) := by
          rw [decide_eq_decide]
          constructor
          · intro hm t ht
            have := hm2 _ (List.mem_cons_of_mem _ (List.mem_map_of_mem (f := fun t : Pr => if t.2 * facQ row < 0 then -(t.2 * facQ row) else t.2 * facQ row) ht))
            revert this
            show (if t.2 * facQ row < 0 then -(t.2 * facQ row) else t.2 * facQ row) ≤ m → _
            split <;> omega
          · intro h
            rcases List.mem_cons.mp hm1 with z | z
            · omega
            · obtain ⟨t, ht, e⟩ := List.mem_map.mp z
              have := h t ht
              revert e
              show (if t.2 * facQ row < 0 then -(t.2 * facQ row) else t.2 * facQ row) = m → _
              split <;> omega
        by_cases c3 : nth row 4 = 2 ∧ (∀ t ∈ B, (t.2 * facQ row).natAbs ≤ 1000000000)
        · rw [if_pos c3]
          refine sv_stop (sv_ifT (tv_and (a := true) (b := true) (tv_eq (tv_eqI vk ev_int) (by simpa using c3.1)) fun _ => tv_eq (tv_cmpI (g := fun i j => decide (i ≤ j)) vm ev_p109) (by rw [hall]; simpa using c3.2)) (sv_ret (lcP (fun p => (p.1, p.2 * facQ row)) v4 (by omega) fun p hp => by
            subst hρ
            exact ev_of_L (evl_lst (av_cons (ev_pl0 (p := p) (ev_var rfl)) (av_cons (ev_mulI (ev_pl1 (p := p) (ev_var rfl)) (ev_var rfl) (mul_ok 30 10 (hbb p hp) fb (by decide))) av_nil)) le2))))
        · rw [if_neg c3]
          refine sv_seq (sv_ifF (tv_eq (b := false) (tv_and (a := decide (nth row 4 = 2)) (b := decide (∀ t ∈ B, (t.2 * facQ row).natAbs ≤ 1000000000)) (tv_eq (tv_eqI vk ev_int) (beqI _ _)) fun _ => tv_eq (tv_cmpI (g := fun i j => decide (i ≤ j)) vm ev_p109) hall) (by rw [← Bool.decide_and, decide_eq_false_iff_not]; exact c3)) sv_next) (sv_ret v4)
theorem pr_law_another (k : KF K) (W : WX) (a C : Addr) (ds : List D) (r : Res) (h : fr_law_another K a C ds r) : FnEnd K W (t_law_another K a (.ref C) none W) (entry N_law_another ds) r := by
  obtain ⟨rfl, rfl, rfl⟩ := h
  left
  show SvD K W (t_law_another K a (.ref (He.ga K "ZeroPolynomial")) none W) [.d (.cls a)] _
  unfold t_law_another
  refine sv_ret (ev_isN (cs := (["BadName", "BadNotation", "BadParts", "BadStretch", "Barred", "BreaksOwnRule", "Broken", "CannotStand", "Contradiction", "NoFamilies", "NoQuotient", "NoRows", "NotBlocked", "NotCourse", "NotEntered", "NotFinite", "NotFree", "NotLet", "NotStricter", "NotTimely", "NothingToUndo", "RowTwice", "RowsDiffer", "ShortStretch", "SpotTwice", "TooLong", "UnknownRow", "Unsure", "ZeroSum"] : List Str).map (He.ga K)) (ev_var rfl) k.ex (ev_tup (av_clss _) (by rw [List.length_map, List.length_map]; decide)) ?_)
  rw [List.map_map]
  exact k.an
theorem sv_refusing {W' : WX} {d e : D} {ps qs : List Pr} (hd : IsPairs d ps) (he : IsPairs e qs) (lp : ps.length ≤ 100000) (lq : qs.length ≤ 100000) (hz : polyM qs = []) (h0 : ρ[0]? = some (.d d)) (h1 : ρ[1]? = some (.d e)) :
    SvD K W' (tDrop (tCallS (SpF K Ppoly_divided.length (frpoly_divided K)) (WE W') (tCons (tVar 0) (tCons (tVar 1) tNil)))) ρ (.er (He.ga K "ZeroPolynomial") [] ρ) :=
  sv_callEr (av_cons (ev_var h0) (av_cons (ev_var h1) av_nil)) ⟨d, e, ps, qs, hd, he, lp, lq, rfl, .inr ⟨hz, rfl⟩⟩
theorem pr_law_refused (k : KF K) (W : WX) (ds : List D) (r : Res) (h : fr_law_refused ds r) : FnEnd K W (t_law_refused K W) (entry N_law_refused ds) r := by
  obtain ⟨d, e, ps, qs, hd, he, lp, lq, hz, rfl, rfl⟩ := h
  left
  show SvD K W (t_law_refused K W) [.d d, .d e, .no, .no] _
  unfold t_law_refused
  refine sv_seq (sv_asg ev_int) ?_
  refine sv_seq (ρ' := [.d d, .d e, .d (.int 1), .no]) ?_ ?_
  · refine sv_to (sv_tryErD (o := .nx [.d d, .d e, .d (.int 1), .no]) (fun W' => sv_refusing hd he lp lq hz rfl rfl) k.m1 (fun a => ?_) (fun _ _ _ z => nomatch z)) rfl
    refine sv_nx (sv_ifT (tv_and (a := true) (b := true) (tv_B (ev_isC (ev_var rfl) k.ex k.i1)) fun _ => tv_and (a := true) (b := true) (tv_B (ev_isT (ev_var rfl) k.ex k.i2)) fun _ => tv_not (tv_B (ev_callY (d := .bl false) (av_cons (ev_var rfl) av_nil) ⟨rfl, rfl, rfl⟩))) (sv_asg (ev_addI (ev_var rfl) ev_int))) [3] rfl
  refine sv_seq (ρ' := [.d d, .d e, .d (.int 2), .no]) ?_ ?_
  · refine sv_to (sv_tryErD (o := .nx [.d d, .d e, .d (.int 2), .no]) (fun W' => sv_refusing hd he lp lq hz rfl rfl) k.m2 (fun a => ?_) (fun _ _ _ z => nomatch z)) rfl
    refine sv_nx (sv_ifT (tv_B (ev_isC (ev_var rfl) k.ex k.i3)) (sv_asg (ev_addI (ev_var rfl) ev_int))) [3] rfl
  exact sv_retE (ev_op (ev_var rfl) ev_int (rv_eqD (x := .int 2) (y := .int 2) rfl rfl)) rfl
theorem ev_poly {ps : List Pr} (h : EvD K te ρ d) (hd : IsPairs d ps) (hl : ps.length ≤ 4000000) : EvD K (tCallS (SpF K P_law_poly.length fr_law_poly) (WE W) (tCons te tNil)) ρ (ePDict (polyM ps)) := ev_call (av_cons h av_nil) ⟨d, ps, hd, hl, rfl, rfl⟩
theorem ev_plen {P : List Pr} (h : EvD K te ρ (ePDict P)) : EvD K (tCB rLenD (tCons te tNil)) ρ (.int (P.length : Int)) := ev_eq (ev_lenDK (evdk_eP h)) (by unfold encI; rw [List.length_map])
theorem ev_dict1 {a b : TE} {i j : Int} (ha : EvD K a ρ (.int i)) (hb : EvD K b ρ (.int j)) : EvD K (tDisp [(a, b)]) ρ (ePDict [(i, j)]) := ev_disp1K (k := .inl i) ha hb
theorem pr_law_other_than_zero (W : WX) (ds : List D) (r : Res) (h : fr_law_other_than_zero ds r) : FnEnd K W (t_law_other_than_zero K W) (entry N_law_other_than_zero ds) r := by
  obtain ⟨P, rfl, rfl⟩ := h
  left
  show SvD K W (t_law_other_than_zero K W) [.d (ePDict P)] _
  unfold t_law_other_than_zero otzP
  by_cases hn : P = []
  · rw [if_pos hn]
    exact sv_stop (sv_ifT (tv_eq (tv_eqI (ev_plen (ev_var rfl)) ev_int) (by rw [hn]; rfl)) (sv_ret (ev_dict1 ev_int ev_int)))
  · rw [if_neg hn]
    refine sv_seq (sv_ifF (tv_eq (tv_eqI (ev_plen (P := P) (ev_var rfl)) ev_int) ?_) sv_next) (sv_ret (ev_var rfl))
    have : P.length ≠ 0 := fun z => hn (List.length_eq_zero_iff.mp z)
    exact beq_eq_false_iff_ne.mpr (by omega)
theorem pr_law_raw (W : WX) (ds : List D) (r : Res) (h : fr_law_raw ds r) : FnEnd K W (t_law_raw K W) (entry N_law_raw ds) r := by
  obtain ⟨ns, k, hk, rfl, rfl⟩ := h
  left
  show SvD K W (t_law_raw K W) [.d (.scr ns), .d (.int (k : Int))] _
  have szok : ∀ s ∈ szR, 0 < s ∧ s < 1073741824 := by decide +kernel
  unfold t_law_raw
  refine sv_ret (ev_call (av_cons (ev_digits (sz := szR) (ev_cell (k := k) (ev_var rfl) (ev_var rfl) hk) (ev_of_L (evl_addL (ev_of_L (evl_lst (av_cons ev_int (av_cons ev_int (av_cons ev_int (av_cons ev_int (av_cons ev_int (av_cons ev_int av_nil)))))) (by decide))) (ev_of_L (evl_rep (ev_of_L (evl_lst (av_cons ev_int (av_cons ev_int (av_cons ev_int (av_cons ev_int av_nil)))) (by decide))) ev_int (by decide) (by decide) (by decide))) (by decide +kernel))) szok (by decide +kernel)) av_nil) ⟨digM (cellM ns k) szR, rowOk_dig _ fun s hs => (szok s hs).1, rfl, rfl⟩)
theorem pr_law_small (W : WX) (ds : List D) (r : Res) (h : fr_law_small ds r) : FnEnd K W (t_law_small K W) (entry N_law_small ds) r := by
  obtain ⟨row, n, hn, _, hl, rfl, rfl⟩ := h
  left
  show SvD K W (t_law_small K W) [.d (.lst (row.map D.int)), .d (.int (n : Int)), .no] _
  unfold t_law_small
  have hc := evl_map (K := K) (ρ := [.d (.lst (row.map D.int)), .d (.int (n : Int)), .no]) (wi := iRng1 (tCons (tVar 1) tNil)) (te := tLst (tCons (tOp (rI0 fun i j => .int (i - j)) (tCB rIntC (tCons (tOp (rIxA K) (tVar 0) (tOp (rAddA K) (tC (.int 1)) (tOp rMulA (tC (.int 2)) (tVar 2)))) tNil)) (tC (.int 4))) (tCons (tOp (rI0 fun i j => .int (i - j)) (tCB rIntC (tCons (tOp (rIxA K) (tVar 0) (tOp (rAddA K) (tC (.int 2)) (tOp rMulA (tC (.int 2)) (tVar 2)))) tNil)) (tC (.int 12))) tNil))) (g := gName 2) (vs := [2]) (e := fun i : Nat => D.int (0 + (i : Int))) (as := List.range n) (fun i => pL (nth row (1 + 2 * i) - 4, nth row (2 + 2 * i) - 12))
    (show WiD K (iRng1 (tCons (tVar 1) tNil)) _ ((List.range n).map fun i : Nat => D.int (0 + (i : Int))) from wi_rng1 (j := (n : Int)) (av_cons (ev_var rfl) av_nil) (by omega) (by omega)) (fun i hi => by
      have hi' := hl i (List.mem_range.mp hi)
      have hi2 := List.mem_range.mp hi
      refine ⟨[2], _, tg_name, by simp, ev_of_L (evl_lst (av_cons (ev_subI (ev_intC (ev_nth (k := 1 + 2 * i) (sl_d (ev_var rfl)) (ev_eq (ev_addI ev_int (ev_mulI ev_int (ev_var rfl) (mul_s (by decide) (by omega)))) (by congr 1; omega)) (by omega))) ev_int) (av_cons (ev_subI (ev_intC (ev_nth (k := 2 + 2 * i) (sl_d (ev_var rfl)) (ev_eq (ev_addI ev_int (ev_mulI ev_int (ev_var rfl) (mul_s (by decide) (by omega)))) (by congr 1; omega)) (by omega))) ev_int) av_nil)) le2)⟩) (by rw [List.length_range]; omega)
  have e1 : ((List.range n).map fun i => pL (nth row (1 + 2 * i) - 4, nth row (2 + 2 * i) - 12)) = (smallP row n).map pL := by unfold smallP; rw [List.map_map]; rfl
  rw [e1] at hc
  exact sv_ret (ev_poly (ev_of_L hc) ⟨_, isPrs_L _, .inl rfl⟩ (by unfold smallP; rw [List.length_map, List.length_range]; omega))
abbrev tbKe (K : PySem.W.Frag) : TS := (tIfS (tOr (tTest (tOp (rI0 fun i j => .bl (decide (j < i))) (tCB rAbsC (tCons (tVar 2) tNil)) (tC (.int 20)))) (tTest (tOp (rI0 fun i j => .bl (decide (j < i))) (tCB rAbsC (tCons (tDGet (tVar 0) (tVar 2)) tNil)) (tOp (rI CPow fun i j => .int (i ^ j.toNat)) (tC (.int 10)) (tC (.int 9)))))) (tRet (tVar 1)) tNext)
theorem abs_is' (i : Int) : (if i < 0 then -i else i) = (i.natAbs : Int) := by split <;> omega
theorem tv_ke {P : List Pr} {d0 : D} (hc : PCan P) {p : Pr} (hp : p ∈ P) : TvD K (tOr (tTest (tOp (rI0 fun i j => .bl (decide (j < i))) (tCB rAbsC (tCons (tVar 2) tNil)) (tC (.int 20)))) (tTest (tOp (rI0 fun i j => .bl (decide (j < i))) (tCB rAbsC (tCons (tDGet (tVar 0) (tVar 2)) tNil)) (tOp (rI CPow fun i j => .int (i ^ j.toNat)) (tC (.int 10)) (tC (.int 9)))))) [.d (ePDict P), .d d0, .d (.int p.1)] (decide (farP p)) :=
  tv_eq (tv_or (a := decide (20 < (p.1.natAbs : Int))) (b := decide (1000000000 < (p.2.natAbs : Int))) (tv_eq (tv_cmpI (g := fun i j => decide (j < i)) (ev_absC (ev_var rfl)) ev_int) (by rw [abs_is'])) fun _ => tv_eq (tv_cmpI (g := fun i j => decide (j < i)) (ev_absC (ev_getP (ev_var rfl) hc hp (ev_var rfl))) ev_p109) (by rw [abs_is'])) (by by_cases a : 20 < (p.1.natAbs : Int) <;> by_cases b : 1000000000 < (p.2.natAbs : Int) <;> simp [farP, a, b])
theorem run_ke {P : List Pr} {d0 : D} (hc : PCan P) : ∀ M : List Pr, (∀ q ∈ M, q ∈ P) → ∃ o, Run (Turn1 K W (gName 2) (tbKe K)) (M.map fun p => D.int p.1) [.d (ePDict P), .d d0, .no] o ∧ (((∃ p ∈ M, farP p) ∧ o = .rt d0) ∨ ((¬ ∃ p ∈ M, farP p) ∧ o = .nx [.d (ePDict P), .d d0, .no]))
  | [], _ => ⟨_, .nil, .inr ⟨fun ⟨_, h, _⟩ => (nomatch h), rfl⟩⟩
  | q :: M, hm => by
    have hq := hm q List.mem_cons_self
    by_cases z : farP q
    · exact ⟨.rt d0, .rt (t1_name (sv_ifT (tv_eq (tv_ke hc hq) (decide_eq_true z)) (sv_ret (ev_var rfl)))), .inl ⟨⟨q, List.mem_cons_self, z⟩, rfl⟩⟩
    · obtain ⟨o, ho, h⟩ := run_ke hc M fun u hu => hm u (List.mem_cons_of_mem _ hu)
      refine ⟨o, .go (t1_name (sv_nx (sv_ifF (tv_eq (tv_ke hc hq) (decide_eq_false z)) sv_next) [2] rfl)) ho, ?_⟩
      rcases h with ⟨⟨p, hp, hf⟩, e⟩ | ⟨h, e⟩
      · exact .inl ⟨⟨p, List.mem_cons_of_mem _ hp, hf⟩, e⟩
      · refine .inr ⟨fun ⟨p, hp, hf⟩ => ?_, e⟩
        rcases List.mem_cons.mp hp with y | y
        · rw [y] at hf; exact z hf
        · exact h ⟨p, y, hf⟩
theorem pr_law_kept (W : WX) (ds : List D) (r : Res) (h : fr_law_kept ds r) : FnEnd K W (t_law_kept K W) (entry N_law_kept ds) r := by
  obtain ⟨P, ps, hc, hl, rfl, rfl⟩ := h
  left
  show SvD K W (t_law_kept K W) [.d (ePDict P), .d (.lst (ps.map pL)), .no] _
  unfold t_law_kept keptP
  by_cases z : 40 < P.length
  · rw [if_pos z]
    exact sv_stop (sv_ifT (tv_eq (tv_cmpI (g := fun i j => decide (j < i)) (ev_plen (P := P) (ev_var rfl)) ev_int) (by simp only [decide_eq_true_eq]; omega)) (sv_ret (ev_var rfl)))
  rw [if_neg z]
  refine sv_seq (sv_ifF (tv_eq (tv_cmpI (g := fun i j => decide (j < i)) (ev_plen (P := P) (ev_var rfl)) ev_int) (by simp only [decide_eq_false_iff_not]; omega)) sv_next) ?_
  obtain ⟨o, ho, h⟩ := run_ke (K := K) (W := W) (d0 := .lst (ps.map pL)) hc P fun _ h => h
  rcases h with ⟨hf, rfl⟩ | ⟨hf, rfl⟩
  · rw [if_pos hf]
    exact sv_stop (sv_forKeys (s := 0) (u0 := ePDict P) rfl (keys_eP P) ho (fun _ _ _ z => nomatch z))
  · rw [if_neg hf]
    refine sv_seq (sv_forKeys (s := 0) (u0 := ePDict P) rfl (keys_eP P) ho (fun _ _ _ z => nomatch z)) (sv_retE (ev_of_L (evl_mapKeys (e := fun p : Pr => D.int p.1) (fun p => pL p) rfl (keys_eP P) (fun p hp => ⟨[2], _, tg_name, by simp, ev_of_L (evl_lst (av_cons (ev_var rfl) (av_cons (ev_getP (ev_var rfl) hc hp (ev_var rfl)) av_nil)) le2)⟩) (by omega))) rfl)
end
end Go
set_option Elab.async false
set_option linter.all false
set_option maxRecDepth 100000
set_option maxHeartbeats 1000000
/-! How large the polynomials of the law are. -/
namespace Go
open PySem PySem.Spec PyProof.Rows L2 DL
structure Pl (S : Int) (n : Nat) (P : List Pr) : Prop where
  can : PCan P
  sh : ∀ p ∈ P, -S ≤ p.1 ∧ p.1 ≤ S
  bd : BdP n P
theorem poly_shift {ps : List Pr} {p : Pr} (h : p ∈ polyM ps) : ∃ q ∈ ps, q.1 = p.1 := by
  by_cases z : ∃ q ∈ ps, q.1 = p.1
  · exact z
  · obtain ⟨e, ne⟩ := poly_mem.mp h
    rw [cp_none fun q hq e => z ⟨q, hq, e⟩] at e
    exact absurd e ne
theorem pl_in {A : List Pr} (h : InP A) : Pl 20 37 (polyM A) := ⟨pcan_poly A, fun p hp => by
  obtain ⟨q, hq, e⟩ := poly_shift hp
  have := h.sh q hq
  omega, bd_poly (C := 7) h.bd (Nat.lt_of_le_of_lt h.len (by decide))⟩
theorem cp_can {P : List Pr} (hc : PCan P) {n : Nat} (h : BdP n P) (k : Int) : (cp P k).natAbs < 2 ^ n := by
  by_cases z : ∃ p ∈ P, p.1 = k
  · obtain ⟨p, hp, e⟩ := z
    rw [← e, pcan_cp hc hp]; exact h p hp
  · rw [cp_none fun q hq e => z ⟨q, hq, e⟩]; exact Nat.pow_pos (by decide)
theorem len_span : ∀ {P : List Pr}, PCan P → ∀ lo hi : Int, lo ≤ hi + 1 → (∀ p ∈ P, lo ≤ p.1 ∧ p.1 ≤ hi) → (P.length : Int) ≤ hi - lo + 1
  | [], _, lo, hi, h0, _ => by show (0 : Int) ≤ _; omega
  | p :: P, hc, lo, hi, h0, h => by
    have hp := h p List.mem_cons_self
    have hl := (List.pairwise_cons.mp hc.lt).1
    have := len_span hc.tail (p.1 + 1) hi (by omega) fun q hq => ⟨by have := hl q hq; omega, (h q (List.mem_cons_of_mem _ hq)).2⟩
    rw [List.length_cons]; omega
theorem Pl.len {S : Int} {n : Nat} {P : List Pr} (h : Pl S n P) (hS : 0 ≤ S) : (P.length : Int) ≤ 2 * S + 1 := by
  have := len_span h.can (-S) S (by omega) h.sh
  omega
theorem Pl.sp {S : Int} {n : Nat} {P : List Pr} (h : Pl S n P) (hS : 0 ≤ S) : -S ≤ fstS P ∧ fstS P ≤ S ∧ -S ≤ (lastP P).1 ∧ (lastP P).1 ≤ S := by
  by_cases z : P = []
  · subst z
    show -S ≤ (0 : Int) ∧ (0 : Int) ≤ S ∧ -S ≤ (0 : Int) ∧ (0 : Int) ≤ S
    omega
  · have a := h.sh _ (firstP_mem z)
    have b := h.sh _ (lastP_mem z)
    exact ⟨a.1, a.2, b.1, b.2⟩
theorem Pl.dok {S S' : Int} {n n' : Nat} {P Q : List Pr} (hP : Pl S n P) (hQ : Pl S' n' Q) (nq : Q ≠ []) (h1 : 0 ≤ S ∧ S ≤ 100) (h2 : 0 ≤ S' ∧ S' ≤ 100) (h3 : n ≤ 100000) (h4 : n' ≤ 8000) : DOk P Q 0 where
  cp := hP.can
  cq := hQ.can
  nq := nq
  lp := by have := hP.len h1.1; omega
  lq := by have := hQ.len h2.1; omega
  sp := by have := hP.sp h1.1; exact ⟨by omega, by omega⟩
  sq := by have := hQ.sp h2.1; exact ⟨by omega, by omega⟩
  lw := by omega
  bp := fun p hp => Nat.lt_of_lt_of_le (hP.bd p hp) (Nat.pow_le_pow_right (by decide) h3)
  bq := fun p hp => Nat.lt_of_lt_of_le (hQ.bd p hp) (Nat.pow_le_pow_right (by decide) h4)
theorem Pl.div {P Q : List Pr} {S : Int} {n : Nat} (hP : Pl S n P) (hQ : Pl 20 37 Q) (nq : Q ≠ []) (hS : 0 ≤ S ∧ S ≤ 40) (h1 : 1 ≤ n) (hn : n ≤ 100000) : Pl (S + 20) (n + 81 * 38) (divF P Q 0) ∧ Pl 40 (n + 81 * 38) (divR P Q 0) := by
  have a := hP.sp hS.1
  have b := hQ.sp (by decide)
  have lq := fst_le hQ.can (lastP_mem nq)
  have D := div_spec (hP.dok hQ nq (by omega) (by decide) hn (by decide)) (b0 := n) (b := 37) (t := 81) (n := n + 81 * 38) (fun k => cp_can hP.can hP.bd k) (fun k => cp_can hQ.can hQ.bd k) hQ.bd h1 (by unfold nTop nBot spP; omega) (Nat.le_refl _)
  refine ⟨⟨pcan_poly _, fun p hp => ?_, D.fb⟩, ⟨pcan_poly _, fun p hp => ?_, D.rb⟩⟩
  · rcases D.fs p hp with ⟨x, y⟩ | ⟨x, y⟩
    · constructor <;> omega
    · constructor <;> omega
  · have := D.sh p hp
    unfold spP at this
    constructor <;> omega
/-- what the program gives, and what it comes to -/
theorem div_is {P Q : List Pr} (h : DOk P Q 0) : ∃ (m : Int) (F R : List Pr) (dF dR : D), eDiv P Q 0 = .tup [.int m, dF, dR] ∧ IsPoly dF F ∧ IsPoly dR R ∧ DSpec 5000000 P Q m F R ∧ PCan F ∧ PCan R ∧ F.length ≤ 1000 ∧ R.length ≤ 1000 ∧ (R.isEmpty = if P = [] then true else (divR P Q 0).isEmpty) := by
  by_cases z : P = []
  · subst z
    refine ⟨1, [], [], .tup [], .tup [], by unfold eDiv; rw [if_pos rfl], .inl rfl, .inl rfl, ⟨by decide, fun k => rfl, fun p hp => (nomatch hp), fun d h _ _ => h, ?_, fun p hp => (nomatch hp), fun p hp => (nomatch hp), fun p hp => (nomatch hp)⟩, ⟨List.Pairwise.nil, fun p hp => (nomatch hp)⟩, ⟨List.Pairwise.nil, fun p hp => (nomatch hp)⟩, by decide, by decide, rfl⟩
    have := Nat.pow_le_pow_right (show 0 < 2 by decide) (show 1 ≤ 5000000 by decide)
    have e : (1 : Int).natAbs = 1 := rfl
    rw [e]; omega
  · have st := steps_le h
    have D := div_spec h (b0 := 100000) (b := 8000) (t := 601) (n := 5000000) (fun k => cp_can h.cp h.bp k) (fun k => cp_can h.cq h.bq k) h.bq (by decide) (by omega) (by decide)
    have s1 := h.sp.lo
    have s2 := h.sp.hi
    have q1 := h.sq.lo
    have q2 := h.sq.hi
    have lq := fst_le h.cq (lastP_mem h.nq)
    have lp := fst_le h.cp (lastP_mem z)
    have lF := len_span (pcan_poly (runD P Q 0).fac) (-300) 300 (by decide) fun p hp => by
      rcases D.fs p hp with ⟨x, y⟩ | ⟨x, y⟩
      · constructor <;> omega
      · constructor <;> omega
    have lR := len_span (pcan_poly (runD P Q 0).rest) 0 300 (by decide) fun p hp => by
      have := D.sh p hp
      unfold spP at this
      constructor <;> omega
    refine ⟨_, divF P Q 0, divR P Q 0, _, _, by unfold eDiv; rw [if_neg z], .inr rfl, .inr rfl, D, pcan_poly _, pcan_poly _, ?_, ?_, by rw [if_neg z]⟩
    · unfold divF; omega
    · unfold divR; omega
end Go
set_option Elab.async false
set_option linter.all false
set_option maxRecDepth 100000
set_option maxHeartbeats 1000000
namespace Go
open PySem PySem.Spec PyProof.Rows L2 DL
section
variable {K : PySem.W.Frag} {W : WX} {ρ : List Sl} {te ta tb tc td : TE} {d : D}
theorem ev_lmul {P Q : List Pr} (h1 : EvD K ta ρ (ePDict P)) (h2 : EvD K tb ρ (ePDict Q)) (hP : PCan P) (hQ : PCan Q) (lp : P.length ≤ 1000) (lq : Q.length ≤ 1000) (bp : BdP 20000000 P) (bq : BdP 20000000 Q) : EvD K (tCallS (SpF K P_law_mul.length fr_law_mul) (WE W) (tCons ta (tCons tb tNil))) ρ (ePDict (polyM (mulP P Q))) :=
  ev_call (av_cons h1 (av_cons h2 av_nil)) ⟨P, Q, hP, hQ, lp, lq, bp, bq, rfl, rfl⟩
theorem ev_ladd {P Q : List Pr} (h1 : EvD K ta ρ (ePDict P)) (h2 : EvD K tb ρ (ePDict Q)) (hP : PCan P) (hQ : PCan Q) (lp : P.length ≤ 1000000) (lq : Q.length ≤ 1000000) (bq : BdP 20000000 Q) : EvD K (tCallS (SpF K P_law_add.length fr_law_add) (WE W) (tCons ta (tCons tb (tCons (tC (.int 1)) tNil)))) ρ (ePDict (polyM (P ++ Q))) :=
  ev_call (av_cons h1 (av_cons h2 (av_cons ev_int av_nil))) ⟨P, Q, hP, hQ, lp, lq, bq, rfl, rfl⟩
theorem can_one (s c : Int) (h : c ≠ 0) : PCan [(s, c)] := ⟨List.pairwise_singleton _ _, fun p hp => by rw [List.mem_singleton.mp hp]; exact h⟩
theorem ev_lgcd {a b : Int} (h1 : EvD K ta ρ (.int a)) (h2 : EvD K tb ρ (.int b)) (hb : b.natAbs < 2 ^ 6000000) : EvD K (tCallS (SpF K P_law_gcd.length fr_law_gcd) (WE W) (tCons ta (tCons tb tNil))) ρ (.int (gcdI a b)) :=
  ev_call (av_cons h1 (av_cons h2 av_nil)) ⟨a, b, hb, rfl, rfl⟩
def encV (P Q : List Pr) (t : D) (g : Int) : List Sl := [.d t, .d (ePDict P), .d (ePDict Q), .d (.int g), .no, .no]
theorem b6 {n : Nat} {F : List Pr} (h : BdP n F) (hn : n ≤ 6000000) {q : Pr} (hq : q ∈ F) : q.2.natAbs < 2 ^ 6000000 := Nat.lt_of_lt_of_le (h q hq) (Nat.pow_le_pow_right (by decide) hn)
theorem run_v1 {P Q : List Pr} {t : D} {F : List Pr} (hb : BdP 5000000 F) : ∀ (M : List Pr) (g : Int), (∀ q ∈ M, q ∈ F) → Run (Turn1 K W (gName 4) (tAsg (tCallS (SpF K P_law_gcd.length fr_law_gcd) (WE W) (tCons (tVar 3) (tCons (tOp (rIxA K) (tVar 4) (tC (.int 1))) tNil))) (gName 3))) (M.map pT) (encV P Q t g) (.nx (encV P Q t ((M.map (·.2)).foldl gcdI g)))
  | [], g, _ => .nil
  | q :: M, g, h => .go (t1_name (sv_nx (sv_asg (ev_lgcd (ev_var rfl) (ev_pr1 (p := q) (ev_var rfl)) (b6 hb (by decide) (h q List.mem_cons_self)))) [4] rfl)) (run_v1 hb M (gcdI g q.2) fun u hu => h u (List.mem_cons_of_mem _ hu))
theorem fst_mem1 {P : List Pr} (hn : P ≠ []) : fstS P ∈ P.map fun p : Pr => p.1 := List.mem_map_of_mem (f := fun p : Pr => p.1) (firstP_mem hn)
theorem ev_spread {Q : List Pr} (hQ : PCan Q) (nq : Q ≠ []) (h : EvD K te ρ (ePDict Q)) : EvD K (tOp (rI0 fun i j => .int (i - j)) (tCB (rMax K) (tCons (tCB rListRd (tCons te tNil)) tNil)) (tCB (rMin K) (tCons (tCB rListRd (tCons te tNil)) tNil))) ρ (.int (spP Q)) := by
  have hk : EvL K (tCB rListRd (tCons te tNil)) ρ ((Q.map fun p : Pr => p.1).map D.int) := by
    have := evl_listRd (evdk_eP h)
    rw [encI_keysP] at this; exact this
  exact ev_subI (ev_maxL (ns := Q.map fun p : Pr => p.1) (m := (lastP Q).1) (sl_d (ev_of_L hk)) (List.mem_map_of_mem (f := fun p : Pr => p.1) (lastP_mem nq)) fun y hy => by
    obtain ⟨q, hq, rfl⟩ := List.mem_map.mp hy
    exact le_last hQ hq) (ev_minL (ns := Q.map fun p : Pr => p.1) (m := fstS Q) (sl_d (ev_of_L hk)) (fst_mem1 nq) fun y hy => by
    obtain ⟨q, hq, rfl⟩ := List.mem_map.mp hy
    exact fst_le hQ hq)
abbrev tbV2 (K : PySem.W.Frag) (W : WX) : TS := (tSeq (tAsg (tCallS (SpF K P_law_gcd.length fr_law_gcd) (WE W) (tCons (tVar 3) (tCons (tOp (rIxA K) (tVar 4) (tC (.int 1))) tNil))) (gName 3))
    (tIfS (tOr (tTest (tOp (rI0 fun i j => .bl (decide (i < j))) (tOp (rIxA K) (tVar 4) (tC (.int 0))) (tC (.int 0)))) (tTest (tOp (rI0 fun i j => .bl (decide (j ≤ i))) (tOp (rIxA K) (tVar 4) (tC (.int 0))) (tOp (rI0 fun i j => .int (i - j)) (tCB (rMax K) (tCons (tCB rListRd (tCons (tVar 2) tNil)) tNil)) (tCB (rMin K) (tCons (tCB rListRd (tCons (tVar 2) tNil)) tNil)))))) (tRet (tC (.bl false))) tNext))
theorem run_v2 {P Q : List Pr} {t : D} {R : List Pr} (hQ : PCan Q) (nq : Q ≠ []) (hb : BdP 5000000 R) (hs : ∀ p ∈ R, 0 ≤ p.1 ∧ p.1 < spP Q) : ∀ (M : List Pr) (g : Int), (∀ q ∈ M, q ∈ R) → Run (Turn1 K W (gName 4) (tbV2 K W)) (M.map pT) (encV P Q t g) (.nx (encV P Q t ((M.map (·.2)).foldl gcdI g)))
  | [], g, _ => .nil
  | q :: M, g, h => by
    have hq := h q List.mem_cons_self
    have s := hs q hq
    refine .go (t1_name (sv_nx (sv_seq (sv_asg (ev_lgcd (ev_var rfl) (ev_pr1 (p := q) (ev_var rfl)) (b6 hb (by decide) hq))) (sv_ifF (tv_or (a := false) (b := false) (tv_eq (tv_cmpI (g := fun i j => decide (i < j)) (ev_pr0 (p := q) (ev_var rfl)) ev_int) (by simp only [decide_eq_false_iff_not]; omega)) fun _ => tv_eq (tv_cmpI (g := fun i j => decide (j ≤ i)) (ev_pr0 (p := q) (ev_var rfl)) (ev_spread hQ nq (ev_var rfl))) (by simp only [decide_eq_false_iff_not]; omega)) sv_next)) [4] rfl)) (run_v2 hQ nq hb hs M (gcdI g q.2) fun u hu => h u (List.mem_cons_of_mem _ hu))
theorem cp_scale (m : Int) (P : List Pr) (k : Int) : cp (mulP P [(0, m)]) k = m * cp P k := by
  rw [cp_mul]
  have : ∀ ps : List Pr, wt (fun s => cp [(0, m)] (k - s)) ps = m * cp ps k := by
    intro ps
    induction ps with
    | nil => show (0 : Int) = m * 0; omega
    | cons p ps ih =>
      have e1 : cp [(0, m)] (k - p.1) = if p.1 = k then m else 0 := by
        show (if (0 : Int) = k - p.1 then m else 0) + 0 = _
        by_cases e : p.1 = k
        · rw [if_pos (by omega), if_pos e, Int.add_zero]
        · rw [if_neg (by omega), if_neg e]; rfl
      rw [wt_cons, ih, e1]
      show _ = m * ((if p.1 = k then p.2 else 0) + cp ps k)
      rw [Int.mul_add]
      congr 1
      split
      · rw [Int.mul_comm]
      · rw [Int.mul_zero, Int.mul_zero]
  exact this P
theorem pr_law_divided (W : WX) (ds : List D) (r : Res) (h : fr_law_divided ds r) : FnEnd K W (t_law_divided K W) (entry N_law_divided ds) r := by
  obtain ⟨P, Q, hD, lp, lq, rfl, rfl⟩ := h
  left
  obtain ⟨m, F, R, dF, dR, e, hF, hR, S, cF, cR, lF, lR, _⟩ := div_is hD
  rw [e]
  show SvD K W (t_law_divided K W) [.d (.tup [.int m, dF, dR]), .d (ePDict P), .d (ePDict Q), .no, .no, .no] _
  unfold t_law_divided
  have t0 : ∀ {ρ : List Sl}, ρ[0]? = some (.d (.tup [.int m, dF, dR])) → EvD K (tOp (rIxA K) (tVar 0) (tC (.int 0))) ρ (.int m) := fun h => ev_ixT (i := 0) (st_d (ev_var h)) ev_int rfl
  have t1 : ∀ {ρ : List Sl}, ρ[0]? = some (.d (.tup [.int m, dF, dR])) → EvD K (tOp (rIxA K) (tVar 0) (tC (.int 1))) ρ dF := fun h => ev_ixT (i := 1) (st_d (ev_var h)) ev_int rfl
  have t2 : ∀ {ρ : List Sl}, ρ[0]? = some (.d (.tup [.int m, dF, dR])) → EvD K (tOp (rIxA K) (tVar 0) (tC (.int 2))) ρ dR := fun h => ev_ixT (i := 2) (st_d (ev_var h)) ev_int rfl
  have pos := S.pos
  refine sv_seq (sv_ifF (tv_or (a := false) (b := false) (tv_not (tv_B (ev_isTup (ev_var rfl)))) fun _ => tv_or (a := false) (b := false) (tv_neI (i := 3) (j := 3) (ev_lenT (st_d (ds := [.int m, dF, dR]) (ev_var rfl))) ev_int) fun _ => tv_or (a := false) (b := false) (tv_not (tv_B (ev_whole (t0 rfl)))) fun _ => tv_eq (tv_cmpI (g := fun i j => decide (i < j)) (t0 rfl) ev_int) (by simp only [decide_eq_false_iff_not]; omega)) sv_next) ?_
  refine sv_or2 (tv_not (tv_B (ev_call (f := fr_law_is_poly) (d := .bl true) (av_cons (t1 rfl) av_nil) ⟨dF, F, by omega, cF.lt, cF.ne, hF, rfl, rfl⟩))) (tv_not (tv_B (ev_call (f := fr_law_is_poly) (d := .bl true) (av_cons (t2 rfl) av_nil) ⟨dR, R, by omega, cR.lt, cR.ne, hR, rfl, rfl⟩))) ?_
  refine sv_seq (sv_asg (t0 rfl)) ?_
  show SvD K W _ (encV P Q (.tup [.int m, dF, dR]) m) _
  refine sv_seq (sv_for (wi_po hF (t1 rfl)) (run_v1 S.fb F m fun _ h => h)) ?_
  refine sv_seq (sv_for (wi_po hR (t2 rfl)) (run_v2 hD.cq hD.nq S.rb S.sh R _ fun _ h => h)) ?_
  have hg : (R.map (·.2)).foldl gcdI ((F.map (·.2)).foldl gcdI m) = 1 := by
    obtain ⟨a1, a2⟩ := fold_gcd_dvd (F.map (·.2)) m
    obtain ⟨b1, b2⟩ := fold_gcd_dvd (R.map (·.2)) ((F.map (·.2)).foldl gcdI m)
    have nn : 0 ≤ (R.map (·.2)).foldl gcdI ((F.map (·.2)).foldl gcdI m) := fold_gcd_nn _ _ (fold_gcd_nn _ _ (by omega))
    have := S.one _ (Int.dvd_trans b1 a1) (fun p hp => Int.dvd_trans b1 (a2 _ (List.mem_map_of_mem (f := fun p : Pr => p.2) hp))) (fun p hp => b2 _ (List.mem_map_of_mem (f := fun p : Pr => p.2) hp))
    have := Int.le_of_dvd (by decide) this
    have h0 : (R.map (·.2)).foldl gcdI ((F.map (·.2)).foldl gcdI m) ≠ 0 := fun z => by
      rw [z] at b1
      have := Int.zero_dvd.mp b1
      rw [this] at a1
      have := Int.zero_dvd.mp a1
      omega
    omega
  rw [hg]
  have b20 : ∀ {n : Nat} {F : List Pr}, BdP n F → n ≤ 20000000 → BdP 20000000 F := fun h hn p hp => Nat.lt_of_lt_of_le (h p hp) (Nat.pow_le_pow_right (by decide) hn)
  have lFQ : (polyM (mulP F Q)).length ≤ 1000000 := by
    refine Nat.le_trans (len_poly _) ?_
    rw [len_mulP]; exact Nat.le_trans (Nat.mul_le_mul lF lq) (by decide)
  refine sv_seq (sv_asg (d := ePDict (polyM (mulP F Q))) (ev_lmul (P := F) (Q := Q) (ev_eq (ev_poly (t1 rfl) (isPairs_po hF) (by omega)) (by rw [poly_self cF])) (ev_var rfl) cF hD.cq lF lq (b20 S.fb (by decide)) (b20 hD.bq (by decide)))) ?_
  refine sv_retE (ev_andV (a := true) (b := true) (ev_eq (ev_eqXD (x := .int 1) (y := .int 1) (ev_var rfl) ev_int rfl rfl) rfl) fun _ => ?_) rfl
  have eq : polyM (mulP P [(0, m)]) = polyM (polyM (mulP F Q) ++ R) := poly_eq fun k => by
    rw [cp_scale, cp_app, cp_poly, S.eq]
  have hl := ev_lmul (K := K) (W := W) (P := P) (Q := [(0, m)]) (ta := tVar 1) (tb := tDisp [((tC (.int 0)), (tOp (rIxA K) (tVar 0) (tC (.int 0))))]) (ρ := [.d (.tup [.int m, dF, dR]), .d (ePDict P), .d (ePDict Q), .d (.int 1), .no, .d (ePDict (polyM (mulP F Q)))]) (ev_var rfl) (ev_dict1 ev_int (t0 rfl)) hD.cp (can_one 0 m (by omega)) lp (by show 1 ≤ 1000; decide) (b20 hD.bp (by decide)) (fun p hp => by rw [List.mem_singleton.mp hp]; exact Nat.lt_of_lt_of_le S.mb (Nat.pow_le_pow_right (by decide) (by decide)))
  have hr := ev_ladd (K := K) (W := W) (P := polyM (mulP F Q)) (Q := R) (ta := tVar 5) (ρ := [.d (.tup [.int m, dF, dR]), .d (ePDict P), .d (ePDict Q), .d (.int 1), .no, .d (ePDict (polyM (mulP F Q)))]) (ev_var rfl) (ev_eq (ev_poly (W := W) (t2 rfl) (isPairs_po hR) (by omega)) (by rw [poly_self cR])) (pcan_poly _) cR lFQ (by omega) (b20 S.rb (by decide))
  rw [eq] at hl
  have f := fun {te : TE} (h : EvD K te [.d (.tup [.int m, dF, dR]), .d (ePDict P), .d (ePDict Q), .d (.int 1), .no, .d (ePDict (polyM (mulP F Q)))] (ePDict (polyM (polyM (mulP F Q) ++ R)))) => evdk_eP h
  have conv : encI (polyM (polyM (mulP F Q) ++ R)) = ((polyM (polyM (mulP F Q) ++ R)).map fun p => ((.inl p.1 : Key), p.2)).map fun p => (p.1, D.int p.2) := by unfold encI; rw [List.map_map]; rfl
  have h1 := f hl
  have h2 := f hr
  rw [conv] at h1 h2
  refine ev_eqXK ?_ h1 h2
  have : ((polyM (polyM (mulP F Q) ++ R)).map fun p => ((.inl p.1 : Key), p.2)).map (·.1) = ((polyM (polyM (mulP F Q) ++ R)).map (·.1)).map Sum.inl := by rw [List.map_map, List.map_map]; rfl
  rw [this]
  exact List.pairwise_map.mpr ((nodup_can (pcan_poly _)).imp fun {x y} hxy e => hxy (Sum.inl.inj e))
theorem pr_law_told (W : WX) (ds : List D) (r : Res) (h : fr_law_told ds r) : FnEnd K W (t_law_told K W) (entry N_law_told ds) r := by
  obtain ⟨d, e, ps, qs, hd, he, lp, lq, hD, rfl, rfl⟩ := h
  left
  show SvD K W (t_law_told K W) [.d d, .d e, .d (ePDict (polyM ps)), .d (ePDict (polyM qs)), .no, .no] _
  have l1 := len_poly ps
  have l2 := len_poly qs
  unfold t_law_told
  refine sv_seq (sv_asg (d := .bl (dvs (polyM ps) (polyM qs))) (ev_call (av_cons (ev_var rfl) (av_cons (ev_var rfl) av_nil)) ⟨d, e, ps, qs, hd, he, by omega, by omega, hD, rfl, rfl⟩)) ?_
  refine sv_notCall (ev_isi (ev_var rfl) rfl (kit_bool rfl)) ?_
  by_cases hn : polyM qs = []
  · have et : eTold (polyM ps) (polyM qs) = .tup [] := by unfold eTold; rw [if_pos hn]
    rw [et]
    refine sv_stop (sv_ifT (tv_eq (tv_eqI (ev_plen (P := polyM qs) (ev_var rfl)) ev_int) (by rw [hn]; rfl)) (sv_stop (sv_ifT (tv_and (a := true) (b := true) ?_ fun _ => tv_B (ev_call (av_cons (ev_var rfl) (av_cons (ev_var rfl) av_nil)) ⟨d, e, ps, qs, hd, he, by omega, by omega, hn, rfl, rfl⟩)) (sv_ret (ev_tup av_nil (by decide))))))
    refine tv_eq (tv_eqD (x := .bl (dvs (polyM ps) (polyM qs))) (y := .bl (((polyM ps).length : Int) == 0)) (ev_var rfl) (ev_op (ev_plen (P := polyM ps) (ev_var rfl)) ev_int (rv_eqD (x := .int _) (y := .int _) rfl rfl)) rfl rfl) ?_
    unfold dvs; rw [if_pos hn]
    cases polyM ps with
    | nil => rfl
    | cons a l =>
      show (false == (((l.length + 1 : Nat) : Int) == 0)) = true
      rw [show (((l.length + 1 : Nat) : Int) == 0) = false from beq_eq_false_iff_ne.mpr (by omega)]; rfl
  · have hD' : DOk (polyM ps) (polyM qs) 0 := by
      rcases hD with z | z
      · exact absurd z hn
      · exact z
    obtain ⟨m, F, R, dF, dR, eD, hF, hR, S, cF, cR, lF, lR, em⟩ := div_is hD'
    have et : eTold (polyM ps) (polyM qs) = eDiv (polyM ps) (polyM qs) 0 := by unfold eTold; rw [if_neg hn]
    rw [et]
    refine sv_seq (sv_ifF (tv_eq (tv_eqI (ev_plen (P := polyM qs) (ev_var rfl)) ev_int) ?_) sv_next) ?_
    · have : (polyM qs).length ≠ 0 := fun z => hn (List.length_eq_zero_iff.mp z)
      exact beq_eq_false_iff_ne.mpr (by omega)
    refine sv_seq (sv_asg (d := eDiv (polyM ps) (polyM qs) 0) (ev_call (av_cons (ev_var rfl) (av_cons (ev_var rfl) av_nil)) ⟨d, e, ps, qs, hd, he, by omega, by omega, rfl, .inl ⟨hD', rfl⟩⟩)) ?_
    refine sv_stop (sv_ifT (tv_and (a := true) (b := true) (tv_B (ev_call (av_cons (ev_var rfl) (av_cons (ev_var rfl) (av_cons (ev_var rfl) av_nil))) ⟨polyM ps, polyM qs, hD', by omega, by omega, rfl, rfl⟩)) fun _ => ?_) (sv_ret (ev_var rfl)))
    have hv : EvD K (tVar 5) [.d d, .d e, .d (ePDict (polyM ps)), .d (ePDict (polyM qs)), .d (.bl (dvs (polyM ps) (polyM qs))), .d (eDiv (polyM ps) (polyM qs) 0)] (.tup [.int m, dF, dR]) := by rw [← eD]; exact ev_var rfl
    refine tv_eq (tv_eqD (x := .bl (dvs (polyM ps) (polyM qs))) (y := .bl ((R.length : Int) == 0)) (ev_var rfl) (ev_op (ev_eq (y := .int (R.length : Int)) (ev_lenT (st_po hR (ev_ixT (i := 2) (st_d hv) ev_int rfl))) (by rw [List.length_map])) ev_int (rv_eqD (x := .int _) (y := .int _) rfl rfl)) rfl rfl) ?_
    unfold dvs
    rw [if_neg hn, ← em]
    cases R with
    | nil => rfl
    | cons a l =>
      show (false == (((l.length + 1 : Nat) : Int) == 0)) = true
      rw [show (((l.length + 1 : Nat) : Int) == 0) = false from beq_eq_false_iff_ne.mpr (by omega)]; rfl
end
end Go
set_option Elab.async false
set_option linter.all false
set_option maxRecDepth 100000
set_option maxHeartbeats 1000000
namespace Go
open PySem PySem.Spec PyProof.Rows L2 DL
/-! ### what the law draws -/
structure Sm (P : List Pr) : Prop where
  can : PCan P
  len : P.length ≤ 5
  bd : BdP 11 P
theorem nth_bd {l : List Int} (h : ∀ x ∈ l, 0 ≤ x ∧ x < 100) (k : Nat) : 0 ≤ nth l k ∧ nth l k < 100 := by
  unfold nth
  rw [List.getD_eq_getElem?_getD]
  cases e : l[k]? with
  | none => show (0 : Int) ≤ 0 ∧ (0 : Int) < 100; decide
  | some v => exact h v (List.mem_of_getElem? e)
theorem row_bd {row : List Int} (hr : rowOk szW row) : ∀ x ∈ row, 0 ≤ x ∧ x < 100 := fun x hx => by
  obtain ⟨i, hi, e⟩ := List.mem_iff_getElem.mp hx
  have lB : ∀ s ∈ szW, s ≤ 25 := by decide +kernel
  have := row_le hr lB (k := i) (by rw [← hr.1]; exact hi)
  have e2 : nth row i = x := by unfold nth; rw [List.getD_eq_getElem?_getD, List.getElem?_eq_getElem hi, e]; rfl
  rw [e2] at this
  omega
theorem small_bd {row : List Int} (h : ∀ x ∈ row, 0 ≤ x ∧ x < 100) (n : Nat) : BdP 8 (smallP row n) := fun p hp => by
  obtain ⟨k, _, rfl⟩ := List.mem_map.mp hp
  have := nth_bd h (2 + 2 * k)
  show (nth row (2 + 2 * k) - 12).natAbs < 256
  omega
theorem sm_small {row : List Int} (h : ∀ x ∈ row, 0 ≤ x ∧ x < 100) {n : Nat} (hn : n ≤ 5) : Sm (polyM (smallP row n)) := by
  have hl : (smallP row n).length ≤ 5 := by unfold smallP; rw [List.length_map, List.length_range]; exact hn
  exact ⟨pcan_poly _, Nat.le_trans (len_poly _) hl, bd_poly (C := 3) (small_bd h n) (by omega)⟩
theorem sm_otz {P : List Pr} (h : Sm P) : Sm (otzP P) := by
  unfold otzP
  split
  · exact ⟨can_one 0 1 (by decide), by decide, fun p hp => by rw [List.mem_singleton.mp hp]; show (1 : Int).natAbs < 2 ^ 11; decide⟩
  · exact h
theorem sub_row {row : List Int} (h : ∀ x ∈ row, 0 ≤ x ∧ x < 100) (a b : Nat) : ∀ x ∈ (row.drop a).take b, 0 ≤ x ∧ x < 100 := fun x hx => h x (List.mem_of_mem_drop (List.mem_of_mem_take hx))
theorem row3 {row : List Int} (hr : rowOk szW row) : 0 ≤ nth row 3 ∧ nth row 3 < 5 := row_at (k := 3) (s := 5) hr (by decide +kernel)
theorem row14 {row : List Int} (hr : rowOk szW row) : 0 ≤ nth row 14 ∧ nth row 14 < 4 := row_at (k := 14) (s := 4) hr (by decide +kernel)
theorem row25 {row : List Int} (hr : rowOk szW row) : 0 ≤ nth row 25 ∧ nth row 25 < 4 := row_at (k := 25) (s := 4) hr (by decide +kernel)
theorem sm_f {row : List Int} (hr : rowOk szW row) : Sm (fW row) := sm_otz (sm_small (sub_row (row_bd hr) 3 11) (by have := row3 hr; omega))
theorem sm_q {row : List Int} (hr : rowOk szW row) : Sm (qW row) := sm_otz (sm_small (sub_row (row_bd hr) 14 11) (by have := row14 hr; omega))
theorem bdP_mono' {B C : Nat} {a : List Pr} (h : BdP B a) (hc : B ≤ C) : BdP C a := bdP_mono h hc
theorem cut_is {row : List Int} {lo hi : Nat} (h : hi ≤ row.length) (h2 : lo ≤ hi) : DL.cutD (row.map D.int) (some (lo : Int)) (some (hi : Int)) = ((row.drop lo).take (hi - lo)).map D.int := by
  unfold DL.cutD
  rw [HT.sIx_nat, HT.sIx_nat, List.length_map, Nat.min_eq_left h, Nat.min_eq_left (by omega), List.map_take, List.map_drop]
theorem fact_bd {row : List Int} (hr : rowOk szW row) : (factW row).natAbs ≤ 360 := by
  have t : ∀ n : Nat, n < 8 → (nth [2, 3, -1, -6, 10, 1, 7, 360] n).natAbs ≤ 360 := by decide
  have := row_at (k := 1) (s := 8) hr (by decide +kernel)
  exact t _ (by omega)
theorem fact_ne {row : List Int} (hr : rowOk szW row) : factW row ≠ 0 := by
  have t : ∀ n : Nat, n < 8 → nth [2, 3, -1, -6, 10, 1, 7, 360] n ≠ 0 := by decide
  have := row_at (k := 1) (s := 8) hr (by decide +kernel)
  exact t _ (by omega)
theorem in_kept {P ps : List Pr} (h : InP ps) : InP (keptP P ps) := by
  unfold keptP
  split
  · exact h
  · split
    · exact h
    · rename_i z y
      have f : ∀ p ∈ P, ¬ farP p := fun p hp z => y ⟨p, hp, z⟩
      refine ⟨by omega, fun p hp => ?_, fun p hp => ?_⟩
      · have := f p hp
        unfold farP at this
        simp only [not_or] at this
        omega
      · have := f p hp
        unfold farP at this
        simp only [not_or] at this
        show p.2.natAbs < 1073741824
        omega
theorem two_in {a b : List Pr} {row : List Int} (ha : InP a) (hb : InP b) (hr : rowOk szW row) : InP (twoP a b row).1 ∧ InP (twoP a b row).2 := by
  have r2 := row_at (k := 2) (s := 17) hr (by decide +kernel)
  have fb := fact_bd hr
  have one : ∀ (s c : Int), -20 ≤ s ∧ s ≤ 20 → c.natAbs ≤ 360 → ∀ p ∈ [((s, c) : Pr)], (-20 ≤ p.1 ∧ p.1 ≤ 20) ∧ p.2.natAbs < 2 ^ 30 := fun s c h1 h2 p hp => by
    rw [List.mem_singleton.mp hp]
    exact ⟨h1, by show c.natAbs < 1073741824; omega⟩
  unfold twoP
  split
  · exact ⟨in_kept ha, in_kept hb⟩
  · split
    · exact ⟨in_kept ha, in_kept hb⟩
    · split
      · exact ⟨in_kept ha, in_kept hb⟩
      · split
        · have w : -20 ≤ nth row 2 - 8 ∧ nth row 2 - 8 ≤ 20 := by omega
          exact ⟨ha, ⟨by show 1 ≤ 80; decide, fun p hp => (one _ _ w fb p hp).1, fun p hp => (one _ _ w fb p hp).2⟩⟩
        · split
          · refine ⟨ha, ⟨by show 2 ≤ 80; decide, fun p hp => ?_, fun p hp => ?_⟩⟩
            · rcases List.mem_cons.mp hp with e | e
              · rw [e]; show (-20 : Int) ≤ 3 ∧ (3 : Int) ≤ 20; decide
              · rw [List.mem_singleton.mp e]; show (-20 : Int) ≤ 3 ∧ (3 : Int) ≤ 20; decide
            · rcases List.mem_cons.mp hp with e | e
              · rw [e]; show (factW row).natAbs < 1073741824; omega
              · rw [List.mem_singleton.mp e]; show (-factW row).natAbs < 1073741824; omega
          · split
            · refine ⟨⟨by show 1 ≤ 80; decide, fun p hp => (one 0 0 (by decide) (by decide) p hp).1, fun p hp => (one 0 0 (by decide) (by decide) p hp).2⟩, ?_⟩
              show InP (if nth row 2 < 4 then [] else b)
              split
              · exact ⟨by decide, fun p hp => (nomatch hp), fun p hp => (nomatch hp)⟩
              · exact hb
            · split
              · exact ⟨in_kept ha, hb⟩
              · exact ⟨ha, hb⟩
theorem raw_in (ns : List Int) (k : Nat) : InP (rawP ns k) := by
  have szok : ∀ s ∈ szR, 0 < s ∧ s < 1073741824 := by decide +kernel
  have hr : rowOk szR (digM (cellM ns k) szR) := rowOk_dig _ fun s hs => (szok s hs).1
  refine ⟨drawnR_len hr, ?_, drawnR_bd _⟩
  have hb : ∀ p ∈ baseR (digM (cellM ns k) szR), -20 ≤ p.1 ∧ p.1 ≤ 20 := fun p hp => by
    obtain ⟨j, _, rfl⟩ := List.mem_map.mp hp
    show -20 ≤ (_ : Int) % 41 - 20 ∧ (_ : Int) % 41 - 20 ≤ 20
    constructor <;> omega
  have hn : ∀ l : List Pr, (∀ p ∈ l, -20 ≤ p.1 ∧ p.1 ≤ 20) → ∀ p ∈ negP l, -20 ≤ p.1 ∧ p.1 ≤ 20 := fun l h p hp => by
    obtain ⟨q, hq, rfl⟩ := List.mem_map.mp hp
    exact h q hq
  unfold rawP drawnR
  simp only
  split
  · intro p hp
    rcases List.mem_append.mp hp with z | z
    · exact hb p z
    · exact hn _ hb p z
  · split
    · intro p hp
      rcases List.mem_append.mp hp with z | z
      · exact hn _ (fun q hq => hb q (List.mem_of_mem_take hq)) p z
      · exact hb p z
    · split
      · intro p hp
        obtain ⟨q, hq, rfl⟩ := List.mem_map.mp hp
        exact hb q hq
      · exact hb
end Go
set_option Elab.async false
set_option linter.all false
set_option maxRecDepth 100000
set_option maxHeartbeats 1000000
namespace Go
open PySem PySem.Spec PyProof.Rows L2 DL
section
variable {K : PySem.W.Frag} {W : WX} {ρ : List Sl} {te ta tb tc td : TE} {d : D}
theorem ev_intB {b : Bool} (ha : EvD K ta ρ (.bl b)) : EvD K (tCB rIntC (tCons ta tNil)) ρ (.int (if b then 1 else 0)) := ev_cb (av_cons ha av_nil) fun F H e vs r Q q => by
  cases r with
  | cons a r =>
    cases a; cases r
    exact .inr ⟨b, rfl, q _ F H (.refl e) (.int _)⟩
theorem ev_kept {P ps : List Pr} (h1 : EvD K ta ρ (ePDict P)) (h2 : EvD K tb ρ (.lst (ps.map pL))) (hc : PCan P) (hl : P.length ≤ 1000000) : EvD K (tCallS (SpF K P_law_kept.length fr_law_kept) (WE W) (tCons ta (tCons tb tNil))) ρ (.lst ((keptP P ps).map pL)) := ev_call (av_cons h1 (av_cons h2 av_nil)) ⟨P, ps, hc, hl, rfl, rfl⟩
theorem ev_small {row : List Int} {n : Nat} (h1 : EvD K ta ρ (.lst (row.map D.int))) (h2 : EvD K tb ρ (.int (n : Int))) (hn : n ≤ 1000) (h3 : 2 * n < row.length + 1) (h4 : ∀ k, k < n → 2 + 2 * k < row.length) : EvD K (tCallS (SpF K P_law_small.length fr_law_small) (WE W) (tCons ta (tCons tb tNil))) ρ (ePDict (polyM (smallP row n))) := ev_call (av_cons h1 (av_cons h2 av_nil)) ⟨row, n, hn, h3, h4, rfl, rfl⟩
theorem ev_otz {P : List Pr} (h : EvD K te ρ (ePDict P)) : EvD K (tCallS (SpF K P_law_other_than_zero.length fr_law_other_than_zero) (WE W) (tCons te tNil)) ρ (ePDict (otzP P)) := ev_call (av_cons h av_nil) ⟨P, rfl, rfl⟩
theorem ev_cutr {row : List Int} {lo hi : Nat} (h : ρ[2]? = some (.d (.lst (row.map D.int)))) (h1 : hi ≤ row.length) (h2 : lo ≤ hi) : EvD K (tSl (rSlAny K) (tVar 2) (tPart (tC (.int (lo : Int)))) (tPart (tC (.int (hi : Int))))) ρ (.lst (((row.drop lo).take (hi - lo)).map D.int)) := by
  rw [← cut_is h1 h2]
  exact ev_of_L (evl_slL (sl_d (ev_var h)) (po_is ev_int) (po_is ev_int))
theorem pr_law_two (W : WX) (ds : List D) (r : Res) (h : fr_law_two ds r) : FnEnd K W (t_law_two K W) (entry N_law_two ds) r := by
  obtain ⟨a, b, row, ha, hb, hr, rfl, rfl⟩ := h
  left
  show SvD K W (t_law_two K W) [.d (.lst (a.map pL)), .d (.lst (b.map pL)), .d (.lst (row.map D.int)), .no, .no, .no, .no, .no] _
  have lr : row.length = 34 := by rw [hr.1]; decide +kernel
  have v : ∀ {ρ : List Sl} (k : Nat), k < 34 → ρ[2]? = some (.d (.lst (row.map D.int))) → EvD K (tOp (rIxA K) (tVar 2) (tC (.int (k : Int)))) ρ (.int (nth row k)) := fun k hk h => ev_nth (sl_d (ev_var h)) ev_int (by omega)
  have r0 := row_at (k := 0) (s := 14) hr (by decide +kernel)
  have r1 := row_at (k := 1) (s := 8) hr (by decide +kernel)
  have r3 := row3 hr
  have r14 := row14 hr
  have r25 := row25 hr
  have sf := sm_f hr
  have sq := sm_q hr
  have b20 : ∀ {n : Nat} {F : List Pr}, BdP n F → n ≤ 20000000 → BdP 20000000 F := fun h hn p hp => Nat.lt_of_lt_of_le (h p hp) (Nat.pow_le_pow_right (by decide) hn)
  have l3 : ((row.drop 3).take 11).length = 11 := by rw [List.length_take, List.length_drop]; omega
  have l14 : ((row.drop 14).take 11).length = 11 := by rw [List.length_take, List.length_drop]; omega
  have l25 : ((row.drop 25).take 7).length = 7 := by rw [List.length_take, List.length_drop]; omega
  have sr : Sm (polyM (smallP ((row.drop 25).take 7) (nth row 25).toNat)) := sm_small (sub_row (row_bd hr) 25 7) (by omega)
  have lb : (bothW row).length ≤ 25 := by
    refine Nat.le_trans (len_poly _) ?_
    rw [len_mulP]; exact Nat.mul_le_mul sf.len sq.len
  have lrs : (restW row).length ≤ 1000 := by
    refine Nat.le_trans (len_poly _) ?_
    rw [List.length_append]
    have := sr.len
    omega
  have fne := fact_ne hr
  have fbd := fact_bd hr
  have bone : BdP 20000000 [oneW row] := fun p hp => by
    rw [List.mem_singleton.mp hp]
    refine Nat.lt_of_lt_of_le (show (factW row).natAbs < 2 ^ 9 by show _ < 512; omega) (Nat.pow_le_pow_right (by decide) (by decide))
  unfold t_law_two
  refine sv_seq (sv_asg (d := .int (factW row)) (ev_nthI (l := [2, 3, -1, -6, 10, 1, 7, 360]) (sl_d (ev_of_L (evl_lst (av_cons ev_int (av_cons ev_int (av_cons (ev_neg ev_int) (av_cons (ev_neg ev_int) (av_cons ev_int (av_cons ev_int (av_cons ev_int (av_cons ev_int av_nil)))))))) (by decide)))) (v 1 (by decide) rfl) r1.1 (by show _ < 8; omega))) ?_
  refine sv_seq (sv_asg (d := ePDict (fW row)) (ev_otz (ev_small (n := (1 + nth row 3).toNat) (ev_cutr (lo := 3) (hi := 14) rfl (by omega) (by decide)) (ev_eq (ev_addI ev_int (v 3 (by decide) rfl)) (by congr 1; omega)) (by omega) (by rw [l3]; omega) (fun k hk => by rw [l3]; omega)))) ?_
  refine sv_seq (sv_asg (d := ePDict (qW row)) (ev_otz (ev_small (n := (2 + nth row 14).toNat) (ev_cutr (lo := 14) (hi := 25) rfl (by omega) (by decide)) (ev_eq (ev_addI ev_int (v 14 (by decide) rfl)) (by congr 1; omega)) (by omega) (by rw [l14]; omega) (fun k hk => by rw [l14]; omega)))) ?_
  refine sv_seq (sv_asg (d := ePDict (bothW row)) (ev_lmul (ev_var rfl) (ev_var rfl) sf.can sq.can (by have := sf.len; omega) (by have := sq.len; omega) (b20 sf.bd (by decide)) (b20 sq.bd (by decide)))) ?_
  refine sv_seq (sv_asg (d := ePDict (restW row)) (ev_ladd (ev_var rfl) (ev_small (n := (nth row 25).toNat) (ev_cutr (lo := 25) (hi := 32) rfl (by omega) (by decide)) (ev_eq (v 25 (by decide) rfl) (by congr 1; omega)) (by omega) (by rw [l25]; omega) (fun k hk => by rw [l25]; omega)) (pcan_poly _) sr.can (by omega) (by have := sr.len; omega) (b20 sr.bd (by decide)))) ?_
  have vone : ∀ {ρ : List Sl}, ρ[2]? = some (.d (.lst (row.map D.int))) → ρ[3]? = some (.d (.int (factW row))) → EvD K (tDisp [((tOp (rI0 fun i j => .int (i - j)) (tOp (rIxA K) (tVar 2) (tC (.int 2))) (tC (.int 8))), (tVar 3))]) ρ (ePDict [oneW row]) := fun h h3 => ev_dict1 (ev_subI (v 2 (by decide) h) ev_int) (ev_var h3)
  have lm : ∀ P : List Pr, P.length ≤ 1000 → (polyM (mulP P [oneW row])).length ≤ 1000000 := fun P h => by
    refine Nat.le_trans (len_poly _) ?_
    rw [len_mulP]; show P.length * 1 ≤ _; omega
  have pair : ∀ {ρ : List Sl} {t1 t2 : TE} {x y : List Pr}, EvD K t1 ρ (.lst (x.map pL)) → EvD K t2 ρ (.lst (y.map pL)) → EvD K (tLst (tCons t1 (tCons t2 tNil))) ρ (.lst [.lst (x.map pL), .lst (y.map pL)]) := fun h1 h2 => ev_of_L (evl_lst (av_cons h1 (av_cons h2 av_nil)) le2)
  unfold twoP
  refine sv_ifEq (v 0 (by decide) rfl) ev_int rfl (fun e0 => ?_) fun n0 => ?_
  · rw [if_pos e0]
    exact sv_ret (pair (ev_kept (ev_var rfl) (ev_var rfl) (pcan_poly _) (by omega)) (ev_kept (ev_lmul (ev_var rfl) (vone rfl rfl) sq.can (can_one _ _ fne) (by have := sq.len; omega) (by show 1 ≤ 1000; decide) (b20 sq.bd (by decide)) bone) (ev_var rfl) (pcan_poly _) (lm _ (by have := sq.len; omega))))
  rw [if_neg n0]
  refine sv_ifEq (v 0 (by decide) rfl) ev_int rfl (fun e0 => ?_) fun n1 => ?_
  · rw [if_pos e0]
    exact sv_ret (pair (ev_kept (ev_var rfl) (ev_var rfl) sq.can (by have := sq.len; omega)) (ev_kept (ev_var rfl) (ev_var rfl) (pcan_poly _) (by omega)))
  rw [if_neg n1]
  refine sv_ifLt (v 0 (by decide) rfl) ev_int rfl (fun e0 => ?_) fun n2 => ?_
  · rw [if_pos e0]
    exact sv_ret (pair (ev_kept (ev_var rfl) (ev_var rfl) (pcan_poly _) (by omega)) (ev_kept (ev_var rfl) (ev_var rfl) sq.can (by have := sq.len; omega)))
  rw [if_neg n2]
  refine sv_ifEq (v 0 (by decide) rfl) ev_int rfl (fun e0 => ?_) fun n3 => ?_
  · rw [if_pos e0]
    exact sv_ret (pair (y := [oneW row]) (ev_var rfl) (ev_of_L (evl_lst (av_cons (ev_of_L (evl_lst (av_cons (ev_subI (v 2 (by decide) rfl) ev_int) (av_cons (ev_var rfl) av_nil)) le2)) av_nil) le1)))
  rw [if_neg n3]
  refine sv_ifEq (v 0 (by decide) rfl) ev_int rfl (fun e0 => ?_) fun n4 => ?_
  · rw [if_pos e0]
    exact sv_ret (pair (y := [(3, factW row), (3, -factW row)]) (ev_var rfl) (ev_of_L (evl_lst (av_cons (ev_of_L (evl_lst (av_cons ev_int (av_cons (ev_var rfl) av_nil)) le2)) (av_cons (ev_of_L (evl_lst (av_cons ev_int (av_cons (ev_neg (ev_var rfl)) av_nil)) le2)) av_nil)) le2)))
  rw [if_neg n4]
  refine sv_ifEq (v 0 (by decide) rfl) ev_int rfl (fun e0 => ?_) fun n5 => ?_
  · rw [if_pos e0]
    refine sv_ret (pair (x := [(0, 0)]) (ev_of_L (evl_lst (av_cons (ev_of_L (evl_lst (av_cons ev_int (av_cons ev_int av_nil)) le2)) av_nil) le1)) ?_)
    refine ev_ixL (i := if decide (nth row 2 < 4) then 1 else 0) (sl_d (ds := [.lst (b.map pL), .lst []]) (ev_of_L (evl_lst (av_cons (ev_var rfl) (av_cons (ev_of_L (evl_lst av_nil (by decide))) av_nil)) le2))) (ev_intB (ev_op (v 2 (by decide) rfl) ev_int rv_B0)) ?_
    by_cases z : nth row 2 < 4
    · rw [if_pos (decide_eq_true z)]
      show _ = some (D.lst ((if nth row 2 < 4 then [] else b).map pL))
      rw [if_pos z]; rfl
    · rw [if_neg (by simpa using z)]
      show _ = some (D.lst ((if nth row 2 < 4 then [] else b).map pL))
      rw [if_neg z]; rfl
  rw [if_neg n5]
  refine sv_ifEq (v 0 (by decide) rfl) ev_int rfl (fun e0 => ?_) fun n6 => ?_
  · rw [if_pos e0]
    have pb := pl_in hb
    have lpb := pb.len (by decide)
    exact sv_ret (pair (ev_kept (ev_lmul (ev_poly (ev_var rfl) ⟨_, isPrs_L b, .inl rfl⟩ (by have := hb.len; omega)) (vone rfl rfl) pb.can (can_one _ _ fne) (by omega) (by show 1 ≤ 1000; decide) (b20 pb.bd (by decide)) bone) (ev_var rfl) (pcan_poly _) (lm _ (by omega))) (ev_var rfl))
  rw [if_neg n6]
  exact sv_ret (pair (ev_var rfl) (ev_var rfl))
end
end Go
set_option Elab.async false
set_option linter.all false
set_option maxRecDepth 100000
set_option maxHeartbeats 1000000
namespace Go
open PySem PySem.Spec PyProof.Rows L2 DL
theorem pl_nil (S : Int) (n : Nat) : Pl S n [] := ⟨⟨List.Pairwise.nil, fun p hp => (nomatch hp)⟩, fun p hp => (nomatch hp), fun p hp => (nomatch hp)⟩
theorem Pl.mono {S S' : Int} {n n' : Nat} {P : List Pr} (h : Pl S n P) (hS : S ≤ S') (hn : n ≤ n') : Pl S' n' P := ⟨h.can, fun p hp => by have := h.sh p hp; omega, bdP_mono h.bd hn⟩
theorem tell_is {P Q : List Pr} (hP : Pl 20 37 P) (hQ : Pl 20 37 Q) (nq : Q ≠ []) : ∃ (m : Int) (F R : List Pr) (dF dR : D), eTold P Q = .tup [.int m, dF, dR] ∧ IsPoly dF F ∧ IsPoly dR R ∧ Pl 40 4000 F ∧ Pl 40 4000 R := by
  unfold eTold
  rw [if_neg nq]
  by_cases z : P = []
  · exact ⟨1, [], [], .tup [], .tup [], by unfold eDiv; rw [if_pos z], .inl rfl, .inl rfl, pl_nil _ _, pl_nil _ _⟩
  · obtain ⟨a, b⟩ := hP.div hQ nq (by decide) (by decide) (by decide)
    exact ⟨_, _, _, _, _, by unfold eDiv; rw [if_neg z], .inr rfl, .inr rfl, a.mono (by decide) (by decide), b.mono (by decide) (by decide)⟩
theorem eTold_tup {P Q : List Pr} (h : Q = [] ∨ DOk P Q 0) : ∃ ds, eTold P Q = .tup ds := by
  unfold eTold
  split
  · exact ⟨_, rfl⟩
  · unfold eDiv
    split
    · exact ⟨_, rfl⟩
    · exact ⟨_, rfl⟩
section
variable {K : PySem.W.Frag} {W : WX} {ρ : List Sl} {te ta tb tc td : TE} {d : D}
theorem tv_tupN {ds : List D} (ha : EvD K ta ρ (.tup ds)) : TvD K (tTest (tOp rIsN ta (tC .non))) ρ false := tv_test (ev_op (y := .non) ha (fun F0 H0 F H σ R Q q => q _ F H (.refl R.ex) .non) fun F H e v u a b Q q => by
  cases a with
  | tup h r =>
    cases b
    exact ⟨rfl, q _ F H (.refl e) (.bl _)⟩)
theorem ev_told {x y : D} {ps qs : List Pr} (h1 : EvD K ta ρ x) (h2 : EvD K tb ρ y) (h3 : EvD K tc ρ (ePDict (polyM ps))) (h4 : EvD K td ρ (ePDict (polyM qs))) (hd : IsPairs x ps) (he : IsPairs y qs) (lp : ps.length ≤ 1000) (lq : qs.length ≤ 1000) (hD : polyM qs = [] ∨ DOk (polyM ps) (polyM qs) 0) :
    EvD K (tCallS (SpF K P_law_told.length fr_law_told) (WE W) (tCons ta (tCons tb (tCons tc (tCons td tNil))))) ρ (eTold (polyM ps) (polyM qs)) := ev_call (av_cons h1 (av_cons h2 (av_cons h3 (av_cons h4 av_nil)))) ⟨x, y, ps, qs, hd, he, lp, lq, hD, rfl, rfl⟩
theorem tv_toldN {x y : D} {ps qs : List Pr} (h1 : EvD K ta ρ x) (h2 : EvD K tb ρ y) (h3 : EvD K tc ρ (ePDict (polyM ps))) (h4 : EvD K td ρ (ePDict (polyM qs))) (hd : IsPairs x ps) (he : IsPairs y qs) (lp : ps.length ≤ 1000) (lq : qs.length ≤ 1000) (hD : polyM qs = [] ∨ DOk (polyM ps) (polyM qs) 0) :
    TvD K (tTest (tOp rIsN (tCallS (SpF K P_law_told.length fr_law_told) (WE W) (tCons ta (tCons tb (tCons tc (tCons td tNil))))) (tC .non))) ρ false := by
  obtain ⟨ds, e⟩ := eTold_tup hD
  have := ev_told (W := W) h1 h2 h3 h4 hd he lp lq hD
  rw [e] at this
  exact tv_tupN this
def encZ (ns : List Int) (many : Int) : List Sl := [.d (.scr ns), .d (.int many), .d (.lst (szW.map D.int)), .no, .no, .no, .no, .no, .no, .no, .no, .no, .no]
theorem ok_or {A B : List Pr} {S S' : Int} {n n' : Nat} (hA : Pl S n A) (hB : Pl S' n' B) (h1 : 0 ≤ S ∧ S ≤ 100) (h2 : 0 ≤ S' ∧ S' ≤ 100) (h3 : n ≤ 100000) (h4 : n' ≤ 8000) : B = [] ∨ DOk A B 0 := by
  by_cases z : B = []
  · exact .inl z
  · exact .inr (hA.dok hB z h1 h2 h3 h4)
theorem pr_law (W : WX) (ds : List D) (r : Res) (h : frlaw ds r) : FnEnd K W (tlaw K W) (entry Nlaw ds) r := by
  obtain ⟨ns, ln, rfl, rfl⟩ := h
  left
  show SvD K W (tlaw K W) [.d (.scr ns), .no, .no, .no, .no, .no, .no, .no, .no, .no, .no, .no, .no] _
  unfold tlaw
  have d8 : rowOk [8] (digM (cellM ns 0) [8]) := rowOk_dig _ (by decide)
  have d8' := row_at (k := 0) (s := 8) d8 rfl
  have t8 : ∀ n : Nat, n < 8 → 0 ≤ nth [3, 1, 2, 1, 2, 1, 1, 6] n ∧ nth [3, 1, 2, 1, 2, 1, 1, 6] n ≤ 6 := by decide
  refine sv_seq (sv_asg (d := .int (nth [3, 1, 2, 1, 2, 1, 1, 6] (nth (digM (cellM ns 0) [8]) 0).toNat)) (ev_nthI (l := [3, 1, 2, 1, 2, 1, 1, 6]) (sl_d (ev_of_L (evl_lst (av_cons ev_int (av_cons ev_int (av_cons ev_int (av_cons ev_int (av_cons ev_int (av_cons ev_int (av_cons ev_int (av_cons ev_int av_nil)))))))) (by decide)))) (ev_nth (k := 0) (sl_d (ev_digits (ev_cell (k := 0) (ev_var rfl) ev_int (by decide)) (sz := [8]) (ev_of_L (evl_lst (av_cons ev_int av_nil) le1)) (by decide) (by decide))) ev_int (by rw [d8.1]; decide)) d8'.1 (by show nth _ 0 < 8; omega))) ?_
  obtain ⟨many, hmany⟩ : ∃ m, m = nth [3, 1, 2, 1, 2, 1, 1, 6] (nth (digM (cellM ns 0) [8]) 0).toNat := ⟨_, rfl⟩
  have hm := t8 (nth (digM (cellM ns 0) [8]) 0).toNat (by omega)
  rw [← hmany] at hm ⊢
  have two : ∀ {ρ : List Sl} (n : Nat), n ≤ 5 → EvD K (tOp rMulA (tLst (tCons (tC (.int 9)) (tCons (tC (.int 25)) tNil))) (tC (.int (n : Int)))) ρ (.lst (List.replicate ((n : Int)).toNat [D.int 9, D.int 25]).flatten) := fun n hn => ev_of_L (evl_rep (ev_of_L (evl_lst (av_cons ev_int (av_cons ev_int av_nil)) le2)) ev_int (by omega) (by omega) (by show 2 * n ≤ _; omega))
  have sz : EvL K (tOp (rAddA K) (tOp (rAddA K) (tOp (rAddA K) (tOp (rAddA K) (tOp (rAddA K) (tOp (rAddA K) (tOp (rAddA K) (tLst (tCons (tC (.int 14)) (tCons (tC (.int 8)) (tCons (tC (.int 17)) tNil)))) (tLst (tCons (tC (.int 5)) tNil))) (tOp rMulA (tLst (tCons (tC (.int 9)) (tCons (tC (.int 25)) tNil))) (tC (.int 5)))) (tLst (tCons (tC (.int 4)) tNil))) (tOp rMulA (tLst (tCons (tC (.int 9)) (tCons (tC (.int 25)) tNil))) (tC (.int 5)))) (tLst (tCons (tC (.int 4)) tNil))) (tOp rMulA (tLst (tCons (tC (.int 9)) (tCons (tC (.int 25)) tNil))) (tC (.int 3)))) (tLst (tCons (tC (.int 5)) (tCons (tC (.int 5)) tNil)))) [.d (.scr ns), .d (.int many), .no, .no, .no, .no, .no, .no, .no, .no, .no, .no, .no] (szW.map D.int) :=
    evl_addL (ev_of_L (evl_addL (ev_of_L (evl_addL (ev_of_L (evl_addL (ev_of_L (evl_addL (ev_of_L (evl_addL (ev_of_L (evl_addL (ev_of_L (evl_lst (av_cons ev_int (av_cons ev_int (av_cons ev_int av_nil))) le3)) (ev_of_L (evl_lst (av_cons ev_int av_nil) le1)) (by decide +kernel))) (two 5 (by decide)) (by decide +kernel))) (ev_of_L (evl_lst (av_cons ev_int av_nil) le1)) (by decide +kernel))) (two 5 (by decide)) (by decide +kernel))) (ev_of_L (evl_lst (av_cons ev_int av_nil) le1)) (by decide +kernel))) (two 3 (by decide)) (by decide +kernel))) (ev_of_L (evl_lst (av_cons ev_int (av_cons ev_int av_nil)) le2)) (by decide +kernel)
  refine sv_seq (sv_asgL sz) (sv_frz 2 rfl rfl ?_)
  show SvD K W _ (encZ ns many) _
  have szok : ∀ s ∈ szW, 0 < s ∧ s < 1073741824 := by decide +kernel
  refine sv_seq (sv_for (wi_rng1 (av_cons (ev_var rfl) av_nil) (by omega) (by omega)) (run_same _ fun e he => ?_)) (sv_ret ev_bl)
  obtain ⟨i, hi, rfl⟩ := rng_mem he
  rw [Int.zero_add]
  have hi6 : i ≤ 6 := by omega
  have hr : rowOk szW (digM (cellM ns (3 * i + 3)) szW) := rowOk_dig _ fun s hs => (szok s hs).1
  have ia := raw_in ns (3 * i + 1)
  have ib := raw_in ns (3 * i + 2)
  obtain ⟨row, hrow⟩ : ∃ x, x = digM (cellM ns (3 * i + 3)) szW := ⟨_, rfl⟩
  rw [← hrow] at hr
  have lr : row.length = 34 := by rw [hr.1]; decide +kernel
  obtain ⟨oA, oB⟩ := two_in ia ib hr
  obtain ⟨A, hA⟩ : ∃ x, x = (twoP (rawP ns (3 * i + 1)) (rawP ns (3 * i + 2)) row).1 := ⟨_, rfl⟩
  obtain ⟨B, hB⟩ : ∃ x, x = (twoP (rawP ns (3 * i + 1)) (rawP ns (3 * i + 2)) row).2 := ⟨_, rfl⟩
  rw [← hA] at oA
  rw [← hB] at oB
  have pA := pl_in oA
  have pB := pl_in oB
  have lA := oA.len
  have lB := oB.len
  obtain ⟨one, hone⟩ : ∃ x, x = passP A (nth row 32) := ⟨_, rfl⟩
  obtain ⟨tw, htw⟩ : ∃ x, x = passP B (nth row 33) := ⟨_, rfl⟩
  have i1 : IsPairs one A := by rw [hone]; exact passP_is _ _
  have i2 : IsPairs tw B := by rw [htw]; exact passP_is _ _
  have v : ∀ {ρ : List Sl} (k : Nat), k < 34 → ρ[4]? = some (.d (.lst (row.map D.int))) → EvD K (tOp (rIxA K) (tVar 4) (tC (.int (k : Int)))) ρ (.int (nth row k)) := fun k hk h => ev_nth (sl_d (ev_var h)) ev_int (by omega)
  have at3 : ∀ {ρ : List Sl} (j : Nat), ρ[3]? = some (.d (.int (i : Int))) → EvD K (tOp (rAddA K) (tOp rMulA (tC (.int 3)) (tVar 3)) (tC (.int (j : Int)))) ρ (.int ((3 * i + j : Nat) : Int)) := fun j h => ev_eq (ev_addI (ev_mulI ev_int (ev_var h) (mul_s (by decide) (by omega))) ev_int) (by congr 1)
  have p0 : ∀ {ρ : List Sl}, ρ[5]? = some (.d (.lst [.lst (A.map pL), .lst (B.map pL)])) → EvD K (tOp (rIxA K) (tVar 5) (tC (.int 0))) ρ (.lst (A.map pL)) := fun h => ev_ixL (i := 0) (sl_d (ev_var h)) ev_int rfl
  have p1 : ∀ {ρ : List Sl}, ρ[5]? = some (.d (.lst [.lst (A.map pL), .lst (B.map pL)])) → EvD K (tOp (rIxA K) (tVar 5) (tC (.int 1))) ρ (.lst (B.map pL)) := fun h => ev_ixL (i := 1) (sl_d (ev_var h)) ev_int rfl
  have passA : ∀ {ρ : List Sl}, ρ[5]? = some (.d (.lst [.lst (A.map pL), .lst (B.map pL)])) → ρ[4]? = some (.d (.lst (row.map D.int))) → EvD K (tCallS (SpF K P_law_passed.length fr_law_passed) (WE W) (tCons (tOp (rIxA K) (tVar 5) (tC (.int 0))) (tCons (tOp (rIxA K) (tVar 4) (tC (.int 32))) tNil))) ρ one := fun h5 h4 => by
    rw [hone]; exact ev_call (av_cons (p0 h5) (av_cons (v 32 (by decide) h4) av_nil)) ⟨A, nth row 32, by omega, rfl, rfl⟩
  have passB : ∀ {ρ : List Sl}, ρ[5]? = some (.d (.lst [.lst (A.map pL), .lst (B.map pL)])) → ρ[4]? = some (.d (.lst (row.map D.int))) → EvD K (tCallS (SpF K P_law_passed.length fr_law_passed) (WE W) (tCons (tOp (rIxA K) (tVar 5) (tC (.int 1))) (tCons (tOp (rIxA K) (tVar 4) (tC (.int 33))) tNil))) ρ tw := fun h5 h4 => by
    rw [htw]; exact ev_call (av_cons (p1 h5) (av_cons (v 33 (by decide) h4) av_nil)) ⟨B, nth row 33, by omega, rfl, rfl⟩
  have dAB : polyM B = [] ∨ DOk (polyM A) (polyM B) 0 := ok_or pA pB (by decide) (by decide) (by decide) (by decide)
  have dBA : polyM A = [] ∨ DOk (polyM B) (polyM A) 0 := ok_or pB pA (by decide) (by decide) (by decide) (by decide)
  obtain ⟨dts, hdts⟩ := eTold_tup dAB
  refine t1_name (sv_nx (show SvD K W _ _ (.nx [.d (.scr ns), .d (.int many), .d (.lst (szW.map D.int)), .d (.int (i : Int)), .d (.lst (row.map D.int)), .d (.lst [.lst (A.map pL), .lst (B.map pL)]), .d one, .d tw, .d (ePDict (polyM A)), .d (ePDict (polyM B)), .d (eTold (polyM A) (polyM B)), .no, .no]) from ?_) [3, 4, 5, 6, 7, 8, 9, 10, 11, 12] rfl)
  refine sv_seq (sv_asg (d := .lst (row.map D.int)) (ev_eq (ev_digits (ev_cell (k := 3 * i + 3) (ev_var rfl) (at3 3 rfl) (by omega)) (sz := szW) (ev_var rfl) szok (by decide +kernel)) (by rw [hrow]))) ?_
  refine sv_seq (sv_asg (d := .lst [.lst (A.map pL), .lst (B.map pL)]) (ev_call (av_cons (ev_call (d := .lst ((rawP ns (3 * i + 1)).map pL)) (av_cons (ev_var rfl) (av_cons (at3 1 rfl) av_nil)) ⟨ns, 3 * i + 1, by omega, rfl, rfl⟩) (av_cons (ev_call (d := .lst ((rawP ns (3 * i + 2)).map pL)) (av_cons (ev_var rfl) (av_cons (at3 2 rfl) av_nil)) ⟨ns, 3 * i + 2, by omega, rfl, rfl⟩) (av_cons (ev_var rfl) av_nil))) ⟨rawP ns (3 * i + 1), rawP ns (3 * i + 2), row, ia, ib, hr, rfl, by rw [hA, hB]⟩)) ?_
  refine sv_seq (sv_asg (passA rfl rfl)) (sv_seq (sv_asg (passB rfl rfl)) ?_)
  refine sv_seq (sv_asg (ev_poly (p0 rfl) ⟨_, isPrs_L A, .inl rfl⟩ (by omega))) (sv_seq (sv_asg (ev_poly (p1 rfl) ⟨_, isPrs_L B, .inl rfl⟩ (by omega))) ?_)
  refine sv_seq (sv_asg (d := eTold (polyM A) (polyM B)) (ev_told (ev_var rfl) (ev_var rfl) (ev_var rfl) (ev_var rfl) i1 i2 (by omega) (by omega) dAB)) ?_
  refine sv_or2 (tv_tupN (ds := dts) (ev_eq (ev_var rfl) hdts)) (tv_toldN (ev_var rfl) (ev_var rfl) (ev_var rfl) (ev_var rfl) i2 i1 (by omega) (by omega) dBA) ?_
  refine sv_seq (ρ' := [.d (.scr ns), .d (.int many), .d (.lst (szW.map D.int)), .d (.int (i : Int)), .d (.lst (row.map D.int)), .d (.lst [.lst (A.map pL), .lst (B.map pL)]), .d one, .d tw, .d (ePDict (polyM A)), .d (ePDict (polyM B)), .d (eTold (polyM A) (polyM B)), .no, .no]) ?_ (sv_ifF (tv_or (a := false) (b := false) (tv_same (ev_var rfl) (passA rfl rfl) (sh_pairs i1) (by decide)) fun _ => tv_same (ev_var rfl) (passB rfl rfl) (sh_pairs i2) (by decide)) sv_next)
  by_cases hn : polyM B = []
  · exact sv_ifF (tv_eq (tv_cmpI (g := fun i j => decide (j < i)) (ev_plen (P := polyM B) (ev_var rfl)) ev_int) (by rw [hn]; rfl)) sv_next
  · have lpos : (polyM B).length ≠ 0 := fun z => hn (List.length_eq_zero_iff.mp z)
    obtain ⟨m, F, R, dF, dR, eT, hF, hR, pF, pR⟩ := tell_is pA pB hn
    have lF := pF.len (by decide)
    have lR := pR.len (by decide)
    have sF := poly_self pF.can
    have sR := poly_self pR.can
    have t1 : ∀ {ρ : List Sl}, ρ[10]? = some (.d (eTold (polyM A) (polyM B))) → EvD K (tOp (rIxA K) (tVar 10) (tC (.int 1))) ρ dF := fun h => ev_ixT (i := 1) (st_d (ds := [.int m, dF, dR]) (ev_eq (ev_var h) eT)) ev_int rfl
    have t2 : ∀ {ρ : List Sl}, ρ[10]? = some (.d (eTold (polyM A) (polyM B))) → EvD K (tOp (rIxA K) (tVar 10) (tC (.int 2))) ρ dR := fun h => ev_ixT (i := 2) (st_d (ds := [.int m, dF, dR]) (ev_eq (ev_var h) eT)) ev_int rfl
    have dBR : polyM R = [] ∨ DOk (polyM B) (polyM R) 0 := by rw [sR]; exact ok_or pB pR (by decide) (by decide) (by decide) (by decide)
    have dRB : polyM B = [] ∨ DOk (polyM R) (polyM B) 0 := by rw [sR]; exact ok_or pR pB (by decide) (by decide) (by decide) (by decide)
    have dFB : polyM B = [] ∨ DOk (polyM F) (polyM B) 0 := by rw [sF]; exact ok_or pF pB (by decide) (by decide) (by decide) (by decide)
    refine sv_ifT (tv_eq (tv_cmpI (g := fun i j => decide (j < i)) (ev_plen (P := polyM B) (ev_var rfl)) ev_int) (by simp only [decide_eq_true_eq]; omega)) (sv_nx (show SvD K W _ _ (.nx [.d (.scr ns), .d (.int many), .d (.lst (szW.map D.int)), .d (.int (i : Int)), .d (.lst (row.map D.int)), .d (.lst [.lst (A.map pL), .lst (B.map pL)]), .d one, .d tw, .d (ePDict (polyM A)), .d (ePDict (polyM B)), .d (eTold (polyM A) (polyM B)), .d (ePDict (polyM F)), .d (ePDict (polyM R))]) from ?_) [11, 12] rfl)
    refine sv_seq (sv_asg (ev_poly (t1 rfl) (isPairs_po hF) (by omega))) (sv_seq (sv_asg (ev_poly (t2 rfl) (isPairs_po hR) (by omega))) ?_)
    refine sv_or2 (tv_toldN (ev_var rfl) (t2 rfl) (ev_var rfl) (ev_var rfl) i2 (isPairs_po hR) (by omega) (by omega) dBR) (tv_toldN (t2 rfl) (ev_var rfl) (ev_var rfl) (ev_var rfl) (isPairs_po hR) i2 (by omega) (by omega) dRB) ?_
    exact sv_ifF (tv_toldN (t1 rfl) (ev_var rfl) (ev_var rfl) (ev_var rfl) (isPairs_po hF) i2 (by omega) (by omega) dFB) sv_next
end
end Go
set_option Elab.async false
set_option linter.all false
set_option maxRecDepth 100000
set_option maxHeartbeats 0
namespace Go
open PySem PySem.Spec PyProof.Rows L2 DL
theorem factsL {P : Program} {w : World} {K : PySem.W.Frag} {h : Heap} {mg : Str → Option Value} {f : Addr} (X : K.In h) (G : h.Ns mainGlobals mg) (hfa : mg ("law" : Str) = some (.ref f)) (c : He.SaysD faL fnL K) (cx : exL K = true) :
    ∃ fd : FuncData, (∀ (s : Shared) (v : Value), BindsTo s fd ⟨[v], []⟩ [("script", v)]) ∧ ∀ base : Heap, K.In base → base.Ns mainGlobals mg → FnOk P w K mg base (L2N.CX P w) 6 f fd Plaw (SpF K Plaw.length frlaw) := by
  obtain ⟨z0, y0⟩ := He.ba cx
  obtain ⟨z1, y1⟩ := He.ba y0
  obtain ⟨z2, y2⟩ := He.ba y1
  obtain ⟨z3, y3⟩ := He.ba y2
  obtain ⟨z4, y4⟩ := He.ba y3
  obtain ⟨z5, y5⟩ := He.ba y4
  obtain ⟨z6, y6⟩ := He.ba y5
  have z7 := y6
  have B : Bt K mg := ⟨He.free_ok X G (c.fact 26 (f := .free "ValueError") rfl), He.free_ok X G (c.fact 27 (f := .free "abs") rfl), He.free_ok X G (c.fact 28 (f := .free "bool") rfl), He.free_ok X G (c.fact 29 (f := .free "dict") rfl), He.free_ok X G (c.fact 30 (f := .free "int") rfl), He.free_ok X G (c.fact 31 (f := .free "isinstance") rfl), He.free_ok X G (c.fact 32 (f := .free "len") rfl), He.free_ok X G (c.fact 33 (f := .free "list") rfl), He.free_ok X G (c.fact 34 (f := .free "max") rfl), He.free_ok X G (c.fact 35 (f := .free "min") rfl), He.free_ok X G (c.fact 36 (f := .free "range") rfl), He.free_ok X G (c.fact 37 (f := .free "sorted") rfl), He.free_ok X G (c.fact 38 (f := .free "tuple") rfl), He.glo_ok X G (c.fact 39 (f := .glo "BadName") rfl), He.glo_ok X G (c.fact 40 (f := .glo "BadNotation") rfl), He.glo_ok X G (c.fact 41 (f := .glo "BadParts") rfl), He.glo_ok X G (c.fact 42 (f := .glo "BadStretch") rfl), He.glo_ok X G (c.fact 43 (f := .glo "Barred") rfl), He.glo_ok X G (c.fact 44 (f := .glo "BreaksOwnRule") rfl), He.glo_ok X G (c.fact 45 (f := .glo "Broken") rfl), He.glo_ok X G (c.fact 46 (f := .glo "CannotStand") rfl), He.glo_ok X G (c.fact 47 (f := .glo "Contradiction") rfl), He.glo_ok X G (c.fact 48 (f := .glo "NoFamilies") rfl), He.glo_ok X G (c.fact 49 (f := .glo "NoQuotient") rfl), He.glo_ok X G (c.fact 50 (f := .glo "NoRows") rfl), He.glo_ok X G (c.fact 51 (f := .glo "NotBlocked") rfl), He.glo_ok X G (c.fact 52 (f := .glo "NotCourse") rfl), He.glo_ok X G (c.fact 53 (f := .glo "NotEntered") rfl), He.glo_ok X G (c.fact 54 (f := .glo "NotFinite") rfl), He.glo_ok X G (c.fact 55 (f := .glo "NotFree") rfl), He.glo_ok X G (c.fact 56 (f := .glo "NotLet") rfl), He.glo_ok X G (c.fact 57 (f := .glo "NotStricter") rfl), He.glo_ok X G (c.fact 58 (f := .glo "NotTimely") rfl), He.glo_ok X G (c.fact 59 (f := .glo "NothingToUndo") rfl), He.glo_ok X G (c.fact 60 (f := .glo "RowError") rfl), He.glo_ok X G (c.fact 61 (f := .glo "RowTwice") rfl), He.glo_ok X G (c.fact 62 (f := .glo "RowsDiffer") rfl), He.glo_ok X G (c.fact 63 (f := .glo "ShortStretch") rfl), He.glo_ok X G (c.fact 64 (f := .glo "SpotTwice") rfl), He.glo_ok X G (c.fact 65 (f := .glo "TooLong") rfl), He.glo_ok X G (c.fact 66 (f := .glo "UnknownRow") rfl), He.glo_ok X G (c.fact 67 (f := .glo "Unsure") rfl), He.glo_ok X G (c.fact 68 (f := .glo "ZeroPolynomial") rfl), He.glo_ok X G (c.fact 69 (f := .glo "ZeroSum") rfl), gloB_ok X G z0, errF_ok (c.fact 70 (f := .exc "ZeroPolynomial") rfl)⟩
  have k : KF K := ⟨excB_ok z1, ifTrue_ok z2, ifTrue_ok z3, ifTrue_ok z4, ifTrue_ok z5, ifTrue_ok z6, ifFalse_ok z7⟩
  have A0 : FunAt K mg "cleaned" scleaned Pcleaned := funAt_of X G c 0 0 rfl rfl _ fun _ _ _ _ _ _ us hl => match us, hl with | [_], _ => rfl
  have A1 : FunAt K mg "spread" sspread Pspread := funAt_of X G c 1 1 rfl rfl _ fun _ _ _ _ _ _ us hl => match us, hl with | [_], _ => rfl
  have A2 : FunAt K mg "divided" sdivided Pdivided := funAt_of X G c 2 2 rfl rfl _ fun _ _ _ _ _ _ us hl => match us, hl with | [_, _, _], _ => rfl
  have A3 : FunAt K mg "poly_divided" spoly_divided Ppoly_divided := funAt_of X G c 3 3 rfl rfl _ fun _ _ _ _ _ _ us hl => match us, hl with | [_, _], _ => rfl
  have A4 : FunAt K mg "divides" sdivides Pdivides := funAt_of X G c 4 4 rfl rfl _ fun _ _ _ _ _ _ us hl => match us, hl with | [_, _], _ => rfl
  have A5 : FunAt K mg "_law_whole" s_law_whole P_law_whole := funAt_of X G c 5 5 rfl rfl _ fun _ _ _ _ _ _ us hl => match us, hl with | [_], _ => rfl
  have A6 : FunAt K mg "_law_cell" s_law_cell P_law_cell := funAt_of X G c 6 6 rfl rfl _ fun _ _ _ _ _ _ us hl => match us, hl with | [_, _], _ => rfl
  have A7 : FunAt K mg "_law_digits" s_law_digits P_law_digits := funAt_of X G c 7 7 rfl rfl _ fun _ _ _ _ _ _ us hl => match us, hl with | [_, _], _ => rfl
  have A8 : FunAt K mg "_law_gcd" s_law_gcd P_law_gcd := funAt_of X G c 8 8 rfl rfl _ fun _ _ _ _ _ _ us hl => match us, hl with | [_, _], _ => rfl
  have A9 : FunAt K mg "_law_poly" s_law_poly P_law_poly := funAt_of X G c 9 9 rfl rfl _ fun _ _ _ _ _ _ us hl => match us, hl with | [_], _ => rfl
  have A10 : FunAt K mg "_law_add" s_law_add P_law_add := funAt_of X G c 10 10 rfl rfl _ fun _ _ _ _ _ _ us hl => match us, hl with | [_, _, _], _ => rfl
  have A11 : FunAt K mg "_law_mul" s_law_mul P_law_mul := funAt_of X G c 11 11 rfl rfl _ fun _ _ _ _ _ _ us hl => match us, hl with | [_, _], _ => rfl
  have A12 : FunAt K mg "_law_is_poly" s_law_is_poly P_law_is_poly := funAt_of X G c 12 12 rfl rfl _ fun _ _ _ _ _ _ us hl => match us, hl with | [_], _ => rfl
  have A13 : FunAt K mg "_law_coefficient" s_law_coefficient P_law_coefficient := funAt_of X G c 13 13 rfl rfl _ fun _ _ _ _ _ _ us hl => match us, hl with | [_, _, _], _ => rfl
  have A14 : FunAt K mg "_law_drawn" s_law_drawn P_law_drawn := funAt_of X G c 14 14 rfl rfl _ fun _ _ _ _ _ _ us hl => match us, hl with | [_], _ => rfl
  have A15 : FunAt K mg "_law_raw" s_law_raw P_law_raw := funAt_of X G c 15 15 rfl rfl _ fun _ _ _ _ _ _ us hl => match us, hl with | [_, _], _ => rfl
  have A16 : FunAt K mg "_law_passed" s_law_passed P_law_passed := funAt_of X G c 16 16 rfl rfl _ fun _ _ _ _ _ _ us hl => match us, hl with | [_, _], _ => rfl
  have A17 : FunAt K mg "_law_small" s_law_small P_law_small := funAt_of X G c 17 17 rfl rfl _ fun _ _ _ _ _ _ us hl => match us, hl with | [_, _], _ => rfl
  have A18 : FunAt K mg "_law_other_than_zero" s_law_other_than_zero P_law_other_than_zero := funAt_of X G c 18 18 rfl rfl _ fun _ _ _ _ _ _ us hl => match us, hl with | [_], _ => rfl
  have A19 : FunAt K mg "_law_kept" s_law_kept P_law_kept := funAt_of X G c 19 19 rfl rfl _ fun _ _ _ _ _ _ us hl => match us, hl with | [_, _], _ => rfl
  have A20 : FunAt K mg "_law_two" s_law_two P_law_two := funAt_of X G c 20 20 rfl rfl _ fun _ _ _ _ _ _ us hl => match us, hl with | [_, _, _], _ => rfl
  have A21 : FunAt K mg "_law_another" s_law_another P_law_another := funAt_of X G c 21 21 rfl rfl _ fun _ _ _ _ _ _ us hl => match us, hl with | [_], _ => rfl
  have A22 : FunAt K mg "_law_refused" s_law_refused P_law_refused := funAt_of X G c 22 22 rfl rfl _ fun _ _ _ _ _ _ us hl => match us, hl with | [_, _], _ => rfl
  have A23 : FunAt K mg "_law_divided" s_law_divided P_law_divided := funAt_of X G c 23 23 rfl rfl _ fun _ _ _ _ _ _ us hl => match us, hl with | [_, _, _], _ => rfl
  have A24 : FunAt K mg "_law_told" s_law_told P_law_told := funAt_of X G c 24 24 rfl rfl _ fun _ _ _ _ _ _ us hl => match us, hl with | [_, _, _, _], _ => rfl
  obtain ⟨fd, F⟩ := c.def_ 25 (d := defD "law" slaw) rfl
  have e := hfa.symm.trans (He.glo_ok X G (c.fact 25 (f := .glo "law") rfl))
  cases e
  refine ⟨fd, fun s v => FunD.bindsA (ps := ["script"]) F (fun _ _ _ _ _ _ us hl => match us, hl with | [_], _ => rfl) s [v] rfl, fun base _ _ => ?_⟩
  have ccleaned := calcleaned (P := P) (w := w) (K := K) (mg := mg) (base := base) A0 B pr_cleaned
  have cspread := calspread (P := P) (w := w) (K := K) (mg := mg) (base := base) A1 B pr_spread
  have c_law_whole := cal_law_whole (P := P) (w := w) (K := K) (mg := mg) (base := base) A5 B pr_law_whole
  have c_law_cell := cal_law_cell (P := P) (w := w) (K := K) (mg := mg) (base := base) A6 B pr_law_cell
  have c_law_digits := cal_law_digits (P := P) (w := w) (K := K) (mg := mg) (base := base) A7 B pr_law_digits
  have c_law_gcd := cal_law_gcd (P := P) (w := w) (K := K) (mg := mg) (base := base) A8 B pr_law_gcd
  have c_law_poly := cal_law_poly (P := P) (w := w) (K := K) (mg := mg) (base := base) A9 B pr_law_poly
  have c_law_coefficient := cal_law_coefficient (P := P) (w := w) (K := K) (mg := mg) (base := base) A13 B pr_law_coefficient
  have c_law_passed := cal_law_passed (P := P) (w := w) (K := K) (mg := mg) (base := base) A16 B pr_law_passed
  have c_law_other_than_zero := cal_law_other_than_zero (P := P) (w := w) (K := K) (mg := mg) (base := base) A18 B pr_law_other_than_zero
  have c_law_kept := cal_law_kept (P := P) (w := w) (K := K) (mg := mg) (base := base) A19 B pr_law_kept
  have c_law_another := cal_law_another (P := P) (w := w) (K := K) (mg := mg) (base := base) A21 B (pr_law_another k)
  have cdivided := caldivided (P := P) (w := w) (K := K) (mg := mg) (base := base) A2 B cspread ccleaned pr_divided
  have c_law_add := cal_law_add (P := P) (w := w) (K := K) (mg := mg) (base := base) A10 B c_law_poly pr_law_add
  have c_law_mul := cal_law_mul (P := P) (w := w) (K := K) (mg := mg) (base := base) A11 B c_law_poly pr_law_mul
  have c_law_is_poly := cal_law_is_poly (P := P) (w := w) (K := K) (mg := mg) (base := base) A12 B c_law_whole pr_law_is_poly
  have c_law_drawn := cal_law_drawn (P := P) (w := w) (K := K) (mg := mg) (base := base) A14 B c_law_coefficient pr_law_drawn
  have c_law_small := cal_law_small (P := P) (w := w) (K := K) (mg := mg) (base := base) A17 B c_law_poly pr_law_small
  have cpoly_divided := calpoly_divided (P := P) (w := w) (K := K) (mg := mg) (base := base) A3 B ccleaned cdivided pr_poly_divided
  have cdivides := caldivides (P := P) (w := w) (K := K) (mg := mg) (base := base) A4 B ccleaned cdivided pr_divides
  have c_law_raw := cal_law_raw (P := P) (w := w) (K := K) (mg := mg) (base := base) A15 B c_law_drawn c_law_digits c_law_cell pr_law_raw
  have c_law_two := cal_law_two (P := P) (w := w) (K := K) (mg := mg) (base := base) A20 B c_law_other_than_zero c_law_small c_law_mul c_law_add c_law_kept c_law_poly pr_law_two
  have c_law_divided := cal_law_divided (P := P) (w := w) (K := K) (mg := mg) (base := base) A23 B c_law_whole c_law_is_poly c_law_gcd c_law_mul c_law_poly c_law_add pr_law_divided
  have c_law_refused := cal_law_refused (P := P) (w := w) (K := K) (mg := mg) (base := base) A22 B cpoly_divided c_law_another (pr_law_refused k)
  have c_law_told := cal_law_told (P := P) (w := w) (K := K) (mg := mg) (base := base) A24 B cdivides c_law_refused cpoly_divided c_law_divided pr_law_told
  exact fnlaw (fun_ofD (st := slaw) F) B c_law_digits c_law_cell c_law_two c_law_raw c_law_passed c_law_poly c_law_told pr_law
end Go
open PySem PySem.W PySem.Calls PyProof.Rows
theorem PySem.Challenge.cw_joinpast_k02_polynomial_division_holds : PySem.Challenge.rw_joinpast_k02_polynomial_division.Holds := by
  w_on; o_law
  refine HandSHeadRun.head_imp (r := OpenLaw.row PySem.Challenge.rw_joinpast_k02_polynomial_division) (q := view (OpenLaw.row PySem.Challenge.rw_joinpast_k02_polynomial_division).prog [0, 61]) (H := Go.hkL) (ob := Go.obL) (M := 20000) (loose := Go.looseL) (d := HandSHeadRun.topDef (OpenLaw.row PySem.Challenge.rw_joinpast_k02_polynomial_division).prog 61) (kwd := []) Go.obL_eq Go.runL
    (by kernel_rfl) (by kernel_rfl) (by kernel_rfl) (by rfl) (by first | assumption | decide +kernel) (by decide +kernel) ⟨rfl, rfl, rfl, rfl, rfl, by decide +kernel⟩ ?hw ?hc
  case hw => w_witness2
  case hc =>
    refine DL.walk_ofW (l := PySem.Challenge.rw_joinpast_k02_polynomial_division) (n := 63) (k := 6) (x := "script") (CX := fun w => L2N.CX (PySem.Challenge.rw_joinpast_k02_polynomial_division).prog w) rfl (by decide) (by kernel_rfl) ⟨rfl, by decide, by decide⟩ ?F ?C
    case C =>
      intro w H s e s' z
      obtain ⟨_, _, _, _, _, _, _, _, _, _, _, _, hE⟩ := z
      exact hE
    case F =>
      intro w mg fa h Y G hmg0
      obtain ⟨K, KX, c, cx⟩ := Y
      have hmg : mg ("law" : PySem.Str) = some (.ref fa) := by
        have e : (HandSHeadRun.topDef (OpenLaw.row PySem.Challenge.rw_joinpast_k02_polynomial_division).prog 61).name = ("law" : PySem.Str) := by kernel_rfl
        rw [← e]
        exact hmg0
      obtain ⟨fd, hb, hF⟩ := Go.factsL (P := (PySem.Challenge.rw_joinpast_k02_polynomial_division).prog) (w := w) KX G hmg c cx
      exact ⟨K, fd, _, KX, hb, fun H a ns hl hS => ⟨H, [.scr ns], .ok (.bl true), DL.Ex.refl H, .cons (.scr hS) .nil, rfl, ⟨ns, by omega, rfl, rfl⟩, fun v F' H' _ r => by cases r; rfl⟩, hF⟩
