import PyProof.Rows.All
import Wide.All
import OpenK.AllK
import Wide.FinOn
import HandS.ForMost
import HandS.ForExc
import HandS.Steps
import HandS.Star
import HandS.Conv
import HandS.WideBits
import HandS.Codes
import HandS.Walk
import HandS.ExcCtx
import HandS.HotCalls
import HandS.Wide
import HandS.IsInst
import HandS.TupAny
import HandS.SortInts
import HandS.Gcd
import KE.SortData
import KE.DataCmp
import KE.KDictDisplayH
import HandS.TryOnly
import HandS.Text
import HandS.SetBool
import HandS.SetTxt0
import HandS.ExcIs
import HandS.ExcInitHot
import HandS.TupLen
import HandS.Dict
import HandS.HeadHook2
import HandS.HeadHook1
import HandS.HeadEnd
import HandS.Head3
import HandS.Ends
import HandS.ListItems
import PySem.Challenge.RW_joinpast_k01_polynomial_forms
set_option Elab.async false
set_option linter.all false
set_option maxRecDepth 100000
set_option maxHeartbeats 1000000
/-! Plain data over the abstract heap: what a value stands for, how the heap grows, what slots hold. -/
namespace DL
open PySem L2
/-- plain data -/
inductive D where
  | non | bl (b : Bool) | int (i : Int) | str (x : Str)
  | lst (ds : List D) | tup (ds : List D)
  | dk (ks : List Key) (ds : List D)
  | dt (ks : List (List Key)) (ds : List D)
  | ins (C : Addr) (ns : List Str) (ds : List D)
  | scr (ns : List Int)
  | ty (n : String)
  | cls (C : Addr)
def Ex (H H' : Hp) : Prop := ∀ a o, H a = some o → H' a = some o
theorem Ex.refl (H : Hp) : Ex H H := fun _ _ h => h
theorem Ex.trans {H H1 H2 : Hp} (a : Ex H H1) (b : Ex H1 H2) : Ex H H2 := fun x o h => b x o (a x o h)
theorem Ex.back {H H1 : Hp} (a : Ex H H1) {p : Addr} (h : H1 p = none) : H p = none := by
  cases e : H p with
  | none => rfl
  | some o => rw [a p o e] at h; cases h
theorem Ex.rd {H H' : Hp} {a : Addr} {u : HO} (e : Ex H H') (h : Rd H a u) : Rd H' a u := by
  rcases h with h | ⟨o, h⟩
  · exact Or.inl (e a _ h)
  · exact Or.inr ⟨o, e a _ h⟩
theorem Ex.sl {K : PySem.W.Frag} {H H' : Hp} {a : Addr} {xs : List V} (e : Ex H H') (h : SqL K H a xs) : SqL K H' a xs := by
  rcases h with h | h
  · exact Or.inl (e.rd h)
  · exact Or.inr h
theorem Ex.st {K : PySem.W.Frag} {H H' : Hp} {a : Addr} {xs : List V} (e : Ex H H') (h : SqT K H a xs) : SqT K H' a xs := by
  rcases h with h | h
  · exact Or.inl (e.rd h)
  · exact Or.inr h
/-- a dict that a loop has locked is the same dict -/
def str1 : HO → HO
  | .frz _ (.dK k) => .dK k
  | .frz _ (.dT k) => .dT k
  | o => o
def tupO : HO → Bool
  | .tup _ => true
  | _ => false
def Tol (H H' : Hp) : Prop := ∀ a o, H a = some o → ∃ o', H' a = some o' ∧ str1 o' = str1 o
theorem Ex.tol {H H' : Hp} (e : Ex H H') : Tol H H' := fun a o h => ⟨o, e a o h, rfl⟩
theorem str1_lst {o : HO} {xs : List V} (h : str1 o = .lst xs) : o = .lst xs := by
  unfold str1 at h; split at h <;> first | exact h | cases h
theorem str1_tup {o : HO} {xs : List V} (h : str1 o = .tup xs) : o = .tup xs := by
  unfold str1 at h; split at h <;> first | exact h | cases h
theorem str1_ins {o : HO} {C dx : Addr} {xs : List (Str × V)} (h : str1 o = .ins C dx xs) : o = .ins C dx xs := by
  unfold str1 at h; split at h <;> first | exact h | cases h
theorem str1_scr {o : HO} {ob : Obj} {xs : List V} (h : str1 o = .frz ob (.lst xs)) : o = .frz ob (.lst xs) := by
  unfold str1 at h; split at h <;> first | exact h | cases h
theorem Tol.lst {H H' : Hp} (e : Tol H H') {a : Addr} {xs : List V} (h : H a = some (.lst xs)) : H' a = some (.lst xs) := by
  obtain ⟨o, h1, h2⟩ := e a _ h; rw [h1, str1_lst h2]
theorem Tol.tup {H H' : Hp} (e : Tol H H') {a : Addr} {xs : List V} (h : H a = some (.tup xs)) : H' a = some (.tup xs) := by
  obtain ⟨o, h1, h2⟩ := e a _ h; rw [h1, str1_tup h2]
theorem Tol.ins {H H' : Hp} (e : Tol H H') {a C dx : Addr} {xs : List (Str × V)} (h : H a = some (.ins C dx xs)) : H' a = some (.ins C dx xs) := by
  obtain ⟨o, h1, h2⟩ := e a _ h; rw [h1, str1_ins h2]
theorem Tol.sl {K : PySem.W.Frag} {H H' : Hp} {a : Addr} {xs : List V} (e : Tol H H') (h : SqL K H a xs) : SqL K H' a xs := by
  rcases h with (h | ⟨ob, h⟩) | h
  · exact .inl (.inl (e.lst h))
  · obtain ⟨o, h1, h2⟩ := e a _ h
    rw [str1_scr h2] at h1
    exact .inl (.inr ⟨ob, h1⟩)
  · exact .inr h
mutual
/-- the value v stands for the datum, over the frozen heap F -/
inductive Rep (K : PySem.W.Frag) (F : Hp) : V → D → Prop
  | non : Rep K F .non .non
  | bl (b : Bool) : Rep K F (.bl b) (.bl b)
  | int (i : Int) : Rep K F (.int i) (.int i)
  | str (x : Str) : Rep K F (.str x) (.str x)
  | ty (n : String) : Rep K F (.ty n) (.ty n)
  | cls (C : Addr) : Rep K F (.ref C) (.cls C)
  | lst {a : Addr} {vs : List V} {ds : List D} (h : F a = some (.lst vs)) (r : Reps K F vs ds) : Rep K F (.ref a) (.lst ds)
  | scr {a : Addr} {ns : List Int} (h : SqL K F a (ns.map V.int)) : Rep K F (.ref a) (.scr ns)
  | tup {a : Addr} {vs : List V} {ds : List D} (h : F a = some (.tup vs)) (r : Reps K F vs ds) : Rep K F (.ref a) (.tup ds)
  | dk {a : Addr} {o : HO} {ks : List Key} {vs : List V} {ds : List D} (h : F a = some o) (hs : str1 o = .dK (ks.zip vs)) (l : ks.length = vs.length) (r : Reps K F vs ds) : Rep K F (.ref a) (.dk ks ds)
  | dt {a : Addr} {o : HO} {ks : List (List Key)} {vs : List V} {ds : List D} (h : F a = some o) (hs : str1 o = .dT (ks.zip vs)) (l : ks.length = vs.length) (r : Reps K F vs ds) : Rep K F (.ref a) (.dt ks ds)
  | ins {a C dx : Addr} {ns : List Str} {vs : List V} {ds : List D} (h : F a = some (.ins C dx (ns.zip vs))) (l : ns.length = vs.length) (r : Reps K F vs ds) : Rep K F (.ref a) (.ins C ns ds)
inductive Reps (K : PySem.W.Frag) (F : Hp) : List V → List D → Prop
  | nil : Reps K F [] []
  | cons {v : V} {d : D} {vs : List V} {ds : List D} (h : Rep K F v d) (r : Reps K F vs ds) : Reps K F (v :: vs) (d :: ds)
end
section
variable {K : PySem.W.Frag} {F F' : Hp}
mutual
theorem Rep.tol (e : Tol F F') : ∀ {v : V} {d : D}, Rep K F v d → Rep K F' v d
  | _, _, .non => .non
  | _, _, .bl b => .bl b
  | _, _, .int i => .int i
  | _, _, .str x => .str x
  | _, _, .ty n => .ty n
  | _, _, .cls C => .cls C
  | _, _, .lst h r => .lst (e.lst h) (Reps.tol e r)
  | _, _, .scr h => .scr (e.sl h)
  | _, _, .tup h r => .tup (e.tup h) (Reps.tol e r)
  | _, _, .dk h hs l r => by
    obtain ⟨o', h1, h2⟩ := e _ _ h
    exact .dk h1 (h2.trans hs) l (Reps.tol e r)
  | _, _, .dt h hs l r => by
    obtain ⟨o', h1, h2⟩ := e _ _ h
    exact .dt h1 (h2.trans hs) l (Reps.tol e r)
  | _, _, .ins h l r => .ins (e.ins h) l (Reps.tol e r)
theorem Reps.tol (e : Tol F F') : ∀ {vs : List V} {ds : List D}, Reps K F vs ds → Reps K F' vs ds
  | _, _, .nil => .nil
  | _, _, .cons h r => .cons (Rep.tol e h) (Reps.tol e r)
end
theorem Rep.mono (e : Ex F F') {v : V} {d : D} (h : Rep K F v d) : Rep K F' v d := h.tol e.tol
theorem Reps.mono (e : Ex F F') {vs : List V} {ds : List D} (h : Reps K F vs ds) : Reps K F' vs ds := h.tol e.tol
theorem Reps.length : ∀ {vs : List V} {ds : List D}, Reps K F vs ds → vs.length = ds.length
  | _, _, .nil => rfl
  | _, _, .cons _ r => congrArg (· + 1) r.length
theorem Reps.append : ∀ {vs us : List V} {ds es : List D}, Reps K F vs ds → Reps K F us es → Reps K F (vs ++ us) (ds ++ es)
  | _, _, _, _, .nil, s => s
  | _, _, _, _, .cons h r, s => .cons h (r.append s)
theorem Reps.get : ∀ {vs : List V} {ds : List D}, Reps K F vs ds → ∀ {i : Nat} {v : V}, vs[i]? = some v → ∃ d, ds[i]? = some d ∧ Rep K F v d
  | _, _, .nil, i, v, h => by simp at h
  | _, _, .cons (d := d) h r, 0, v, e => by
    simp at e; subst e; exact ⟨d, rfl, h⟩
  | _, _, .cons h r, i + 1, v, e => by
    obtain ⟨d, e1, e2⟩ := r.get (i := i) (by simpa using e)
    exact ⟨d, by simpa using e1, e2⟩
theorem Reps.getD : ∀ {vs : List V} {ds : List D}, Reps K F vs ds → ∀ {i : Nat} {d : D}, ds[i]? = some d → ∃ v, vs[i]? = some v ∧ Rep K F v d
  | _, _, .nil, i, v, h => by simp at h
  | _, _, .cons (v := v) h r, 0, d, e => by
    simp at e; subst e; exact ⟨v, rfl, h⟩
  | _, _, .cons h r, i + 1, v, e => by
    obtain ⟨d, e1, e2⟩ := r.getD (i := i) (by simpa using e)
    exact ⟨d, by simpa using e1, e2⟩
theorem Reps.take : ∀ {vs : List V} {ds : List D} (n : Nat), Reps K F vs ds → Reps K F (vs.take n) (ds.take n)
  | _, _, 0, _ => by simp; exact .nil
  | _, _, n + 1, .nil => by simp; exact .nil
  | _, _, n + 1, .cons h r => by simp; exact .cons h (r.take n)
theorem Reps.drop : ∀ {vs : List V} {ds : List D} (n : Nat), Reps K F vs ds → Reps K F (vs.drop n) (ds.drop n)
  | _, _, 0, r => by simpa using r
  | _, _, n + 1, .nil => by simp; exact .nil
  | _, _, n + 1, .cons h r => by simp; exact r.drop n
theorem Reps.set {v : V} {d : D} (h0 : Rep K F v d) : ∀ {vs : List V} {ds : List D} (n : Nat), Reps K F vs ds → Reps K F (vs.set n v) (ds.set n d)
  | _, _, _, .nil => .nil
  | _, _, 0, .cons h r => .cons h0 r
  | _, _, n + 1, .cons h r => .cons h (Reps.set h0 n r)
theorem Reps.ints {ns : List Int} : Reps K F (ns.map V.int) (ns.map D.int) := by
  induction ns with
  | nil => exact .nil
  | cons n r ih => exact .cons (.int n) ih
theorem Reps.ints_inv : ∀ {vs : List V} {ns : List Int}, Reps K F vs (ns.map D.int) → vs = ns.map V.int
  | vs, [], h => by
    cases h; rfl
  | vs, n :: ns, h => by
    cases h with
    | cons h r =>
      cases h
      rw [r.ints_inv]; rfl
theorem Reps.strs {ns : List Str} : Reps K F (ns.map V.str) (ns.map D.str) := by
  induction ns with
  | nil => exact .nil
  | cons n r ih => exact .cons (.str n) ih
theorem Reps.strs_inv : ∀ {vs : List V} {ns : List Str}, Reps K F vs (ns.map D.str) → vs = ns.map V.str
  | vs, [], h => by
    cases h; rfl
  | vs, n :: ns, h => by
    cases h with
    | cons h r =>
      cases h
      rw [r.strs_inv]; rfl
end
/-! ### pairs of keys and values -/
/-- a pair list with values, and with data -/
inductive KR {κ : Type} (K : PySem.W.Frag) (F : Hp) : List (κ × V) → List (κ × D) → Prop
  | nil : KR K F [] []
  | cons {k : κ} {v : V} {d : D} {ws : List (κ × V)} {kvs : List (κ × D)} (h : Rep K F v d) (r : KR K F ws kvs) : KR K F ((k, v) :: ws) ((k, d) :: kvs)
/-- in its place, or at the end; what stands under a key -/
def gput {κ β : Type} [DecidableEq κ] : List (κ × β) → κ → β → List (κ × β)
  | [], k, b => [(k, b)]
  | p :: r, k, b => if p.1 = k then (k, b) :: r else p :: gput r k b
def gget {κ β : Type} [DecidableEq κ] : List (κ × β) → κ → Option β
  | [], _ => none
  | p :: r, k => if p.1 = k then some p.2 else gget r k
theorem zip_self {α β : Type} : ∀ l : List (α × β), (l.map (·.1)).zip (l.map (·.2)) = l
  | [] => rfl
  | p :: r => by rw [List.map_cons, List.map_cons, List.zip_cons_cons, zip_self r]
section
variable {κ : Type} {K : PySem.W.Frag} {F F' : Hp}
theorem KR.tol (e : Tol F F') : ∀ {ws : List (κ × V)} {kvs : List (κ × D)}, KR K F ws kvs → KR K F' ws kvs
  | _, _, .nil => .nil
  | _, _, .cons h r => .cons (h.tol e) (r.tol e)
theorem KR.mono (e : Ex F F') {ws : List (κ × V)} {kvs : List (κ × D)} (h : KR K F ws kvs) : KR K F' ws kvs := h.tol e.tol
theorem KR.keys : ∀ {ws : List (κ × V)} {kvs : List (κ × D)}, KR K F ws kvs → ws.map (·.1) = kvs.map (·.1)
  | _, _, .nil => rfl
  | _, _, .cons h r => by rw [List.map_cons, List.map_cons, r.keys]
theorem KR.vals : ∀ {ws : List (κ × V)} {kvs : List (κ × D)}, KR K F ws kvs → Reps K F (ws.map (·.2)) (kvs.map (·.2))
  | _, _, .nil => .nil
  | _, _, .cons h r => .cons h r.vals
theorem KR.length {ws : List (κ × V)} {kvs : List (κ × D)} (h : KR K F ws kvs) : ws.length = kvs.length := by
  have := congrArg List.length h.keys; simpa using this
theorem KR.at : ∀ {ws : List (κ × V)} {kvs : List (κ × D)}, KR K F ws kvs → ∀ {i : Nat} {k : κ} {v : V}, ws[i]? = some (k, v) → ∃ d, kvs[i]? = some (k, d) ∧ Rep K F v d
  | _, _, .nil, i, k, v, h => by simp at h
  | _, _, .cons (d := d) h r, 0, k, v, e => by
    simp at e; obtain ⟨rfl, rfl⟩ := e; exact ⟨d, rfl, h⟩
  | _, _, .cons h r, i + 1, k, v, e => by
    obtain ⟨d, e1, e2⟩ := r.at (i := i) (by simpa using e)
    exact ⟨d, by simpa using e1, e2⟩
theorem KR.of : ∀ {ks : List κ} {vs : List V} {ds : List D}, ks.length = vs.length → Reps K F vs ds → KR K F (ks.zip vs) (ks.zip ds)
  | [], vs, ds, _, _ => .nil
  | k :: ks, _, _, l, .nil => by cases l
  | k :: ks, _, _, l, .cons h r => .cons h (KR.of (by simpa using l) r)
theorem putK_eq [DecidableEq κ] (k : κ) (v : V) : ∀ ws : List (κ × V), (ws.map (·.1)).Nodup → putK ws k v = gput ws k v
  | [], _ => rfl
  | p :: r, nd => by
    have nd' := List.nodup_cons.mp nd
    have ih := putK_eq k v r nd'.2
    unfold putK at ih ⊢
    by_cases e : p.1 = k
    · have no : ∀ q ∈ r, ¬ q.1 = k := fun q hq z => nd'.1 (by show p.1 ∈ _; rw [e, ← z]; exact List.mem_map_of_mem hq)
      have id : r.map (fun kv => if kv.1 = k then (kv.1, v) else kv) = r := by
        clear ih nd nd'
        induction r with
        | nil => rfl
        | cons q r ih2 => rw [List.map_cons, if_neg (no q List.mem_cons_self), ih2 fun x hx => no x (List.mem_cons_of_mem _ hx)]
      rw [List.any_cons, decide_eq_true e, Bool.true_or, if_pos rfl, List.map_cons, if_pos e, id]
      unfold gput
      rw [if_pos e, e]
    · rw [List.any_cons, decide_eq_false e, Bool.false_or, List.map_cons, if_neg e]
      unfold gput
      rw [if_neg e, ← ih]
      split <;> rfl
theorem valV_eq [DecidableEq κ] (k : κ) : ∀ ws : List (κ × V), valV ws k = gget ws k
  | [] => rfl
  | p :: r => by
    by_cases e : p.1 = k
    · rw [valV_pos e]; unfold gget; rw [if_pos e]
    · rw [valV_neg e, valV_eq k r]; conv => rhs; unfold gget; rw [if_neg e]
theorem KR.put [DecidableEq κ] {k : κ} {v : V} {d : D} (h : Rep K F v d) : ∀ {ws : List (κ × V)} {kvs : List (κ × D)}, KR K F ws kvs → KR K F (gput ws k v) (gput kvs k d)
  | _, _, .nil => .cons h .nil
  | _, _, .cons (k := k') h' r => by
    unfold gput
    by_cases e : k' = k
    · rw [if_pos e, if_pos e]; exact .cons h r
    · rw [if_neg e, if_neg e]; exact .cons h' (KR.put h r)
theorem KR.get [DecidableEq κ] {k : κ} : ∀ {ws : List (κ × V)} {kvs : List (κ × D)}, KR K F ws kvs → (gget ws k = none ∧ gget kvs k = none) ∨ ∃ v d, gget ws k = some v ∧ gget kvs k = some d ∧ Rep K F v d
  | _, _, .nil => .inl ⟨rfl, rfl⟩
  | _, _, .cons (k := k') h' r => by
    unfold gget
    by_cases e : k' = k
    · rw [if_pos e, if_pos e]; exact .inr ⟨_, _, rfl, rfl, h'⟩
    · rw [if_neg e, if_neg e]; exact r.get
theorem gput_keys {β : Type} [DecidableEq κ] (k : κ) (b : β) : ∀ kvs : List (κ × β), (kvs.map (·.1)).Nodup → ((gput kvs k b).map (·.1)).Nodup ∧ ∀ x, x ∈ (gput kvs k b).map (·.1) ↔ x = k ∨ x ∈ kvs.map (·.1)
  | [], _ => ⟨by simp [gput], fun x => by simp [gput]⟩
  | p :: r, nd => by
    have nd' := List.nodup_cons.mp nd
    obtain ⟨h1, h2⟩ := gput_keys k b r nd'.2
    unfold gput
    by_cases e : p.1 = k
    · rw [if_pos e]
      refine ⟨by rw [List.map_cons]; exact List.nodup_cons.mpr ⟨by show k ∉ _; rw [← e]; exact nd'.1, nd'.2⟩, fun x => ?_⟩
      rw [List.map_cons, List.map_cons, List.mem_cons, List.mem_cons, e]
      constructor
      · rintro (h | h)
        · exact .inl h
        · exact .inr (.inr h)
      · rintro (h | h | h)
        · exact .inl h
        · exact .inl h
        · exact .inr h
    · rw [if_neg e]
      refine ⟨?_, fun x => ?_⟩
      · rw [List.map_cons]
        refine List.nodup_cons.mpr ⟨fun z => ?_, h1⟩
        rcases (h2 _).mp z with z | z
        · exact e z
        · exact nd'.1 z
      · rw [List.map_cons, List.map_cons, List.mem_cons, List.mem_cons, h2]
        constructor
        · rintro (h | h | h)
          · exact .inr (.inl h)
          · exact .inl h
          · exact .inr (.inr h)
        · rintro (h | h | h)
          · exact .inr (.inl h)
          · exact .inl h
          · exact .inr (.inr h)
theorem gput_length {β : Type} [DecidableEq κ] (k : κ) (b : β) : ∀ kvs : List (κ × β), (gput kvs k b).length ≤ kvs.length + 1
  | [] => by simp [gput]
  | p :: r => by
    have := gput_length k b r
    unfold gput
    split
    · simp
    · simp; exact this
end
/-- the frozen part F and the heap H grow: new frozen objects are new; what is tracked stays -/
structure Gr (F H F' H' : Hp) : Prop where
  f : Ex F F'
  h : Ex H H'
  s : Ex F' H'
  n : ∀ p o, H p = some o → tupO o = false → F p = none → F' p = none
theorem Gr.refl {F H : Hp} (e : Ex F H) : Gr F H F H := ⟨Ex.refl F, Ex.refl H, e, fun _ _ _ _ h => h⟩
theorem Gr.trans {F H F1 H1 F2 H2 : Hp} (a : Gr F H F1 H1) (b : Gr F1 H1 F2 H2) : Gr F H F2 H2 :=
  ⟨a.f.trans b.f, a.h.trans b.h, b.s, fun p o h1 t h2 => b.n p o (a.h p o h1) t (a.n p o h1 t h2)⟩
theorem Ex.updB {F H : Hp} (e : Ex F H) {p : Addr} {o : HO} : Ex (upd F p o) (upd H p o) := fun a u h => by
  by_cases z : a = p
  · subst z; rw [upd_same] at h ⊢; exact h
  · rw [upd_ne z] at h ⊢; exact e a u h
theorem Ex.new {H : Hp} {p : Addr} {o : HO} (h : H p = none) : Ex H (L2.upd H p o) := fun a u e => by
  rw [upd_ne (ne_of_none e h)]; exact e
theorem Ex.mut {H H' : Hp} {p : Addr} {o : HO} (e : Ex H H') (h : H p = none) : Ex H (L2.upd H' p o) := fun a u ha => by
  rw [upd_ne (ne_of_none ha h)]; exact e a u ha
theorem Gr.new {F H : Hp} (e : Ex F H) {p : Addr} {o : HO} (h : H p = none) : Gr F H (upd F p o) (upd H p o) :=
  ⟨Ex.new (e.back h), Ex.new h, e.updB, fun q u h1 _ h2 => by rw [upd_ne (ne_of_none h1 h)]; exact h2⟩
/-- a new object that is not frozen -/
theorem Gr.own {F H : Hp} (e : Ex F H) {p : Addr} {o : HO} (h : H p = none) : Gr F H F (upd H p o) :=
  ⟨Ex.refl F, Ex.new h, e.mut (e.back h), fun q u _ _ h2 => h2⟩
/-- a new object is frozen later -/
theorem Gr.freeze {F H F' H' : Hp} (g : Gr F H F' H') {p : Addr} {o : HO} (h : H p = none) (hf : F' p = none) (h' : H' p = some o) : Gr F H (upd F' p o) H' :=
  ⟨g.f.trans (Ex.new hf), g.h, fun a u e => by
    by_cases z : a = p
    · subst z; rw [upd_same] at e; cases e; exact h'
    · rw [upd_ne z] at e; exact g.s a u e, fun q u h1 t h2 => by rw [upd_ne (ne_of_none h1 h)]; exact g.n q u h1 t h2⟩
/-- a tuple that stands is known -/
theorem Gr.tup {F H : Hp} (e : Ex F H) {q : Addr} {vs : List V} (h : H q = some (.tup vs)) : ∃ F', Gr F H F' H ∧ F' q = some (.tup vs) := by
  cases z : F q with
  | some o =>
    have := e q o z
    rw [h] at this; cases this
    exact ⟨F, .refl e, z⟩
  | none =>
    refine ⟨L2.upd F q (.tup vs), ⟨Ex.new z, Ex.refl H, fun a u w => ?_, fun p o h1 t h2 => ?_⟩, upd_same⟩
    · by_cases y : a = q
      · subst y; rw [upd_same] at w; cases w; exact h
      · rw [upd_ne y] at w; exact e a u w
    · by_cases y : p = q
      · subst y; rw [h] at h1; cases h1; cases t
      · rw [upd_ne y]; exact h2
/-- what a slot holds: nothing known, a datum, an own list or dict that still changes -/
inductive Sl where
  | no | d (x : D) | ol (xs : List D) | ok (kvs : List (Key × D)) | ot (kvs : List (List Key × D))
def Sl.own : Sl → Bool
  | .ol _ => true
  | .ok _ => true
  | .ot _ => true
  | _ => false
def OwnR (K : PySem.W.Frag) (H0 F H : Hp) (p : Addr) : Sl → Prop
  | .ol xs => H0 p = none ∧ F p = none ∧ ∃ vs, H p = some (.lst vs) ∧ Reps K F vs xs
  | .ok kvs => H0 p = none ∧ F p = none ∧ ∃ ws, H p = some (.dK ws) ∧ (kvs.map (·.1)).Nodup ∧ KR K F ws kvs
  | .ot kvs => H0 p = none ∧ F p = none ∧ ∃ ws, H p = some (.dT ws) ∧ (kvs.map (·.1)).Nodup ∧ KR K F ws kvs
  | _ => False
def SlR (K : PySem.W.Frag) (H0 F H : Hp) (o : Option V) : Sl → Prop
  | .no => True
  | .d x => ∃ v, o = some v ∧ Rep K F v x
  | .ol xs => ∃ p, o = some (.ref p) ∧ OwnR K H0 F H p (.ol xs)
  | .ok kvs => ∃ p, o = some (.ref p) ∧ OwnR K H0 F H p (.ok kvs)
  | .ot kvs => ∃ p, o = some (.ref p) ∧ OwnR K H0 F H p (.ot kvs)
theorem SlR.own {K : PySem.W.Frag} {H0 F H : Hp} {o : Option V} {x : Sl} (h : x.own = true) : SlR K H0 F H o x ↔ ∃ p, o = some (.ref p) ∧ OwnR K H0 F H p x := by
  cases x <;> first | exact Iff.rfl | cases h
/-- the state of a def's body: (F0, H0) at its entry, (F, H) now, the slots -/
structure RelS (K : PySem.W.Frag) (F0 H0 F H : Hp) (σ : St) (ρ : List Sl) : Prop where
  gr : Gr F0 H0 F H
  len : σ.length = ρ.length
  sl : ∀ (i : Nat) (x : Sl) (o : Option V), ρ[i]? = some x → σ[i]? = some o → SlR K H0 F H o x
  ne : ∀ (i j : Nat) (x y : Sl) (p : Addr), ρ[i]? = some x → ρ[j]? = some y → x.own = true → y.own = true → σ[i]? = some (some (.ref p)) → σ[j]? = some (some (.ref p)) → i = j
section
variable {K : PySem.W.Frag} {F0 H0 F H F' H' : Hp} {σ : St} {ρ : List Sl}
theorem OwnR.grow (g : Gr F H F' H') {p : Addr} {x : Sl} (h : OwnR K H0 F H p x) : OwnR K H0 F' H' p x := by
  cases x with
  | no => exact h
  | d x => exact h
  | ol xs => obtain ⟨a, b, vs, c, d⟩ := h; exact ⟨a, g.n p _ c rfl b, vs, g.h p _ c, d.mono g.f⟩
  | ok kvs => obtain ⟨a, b, vs, c, n, d⟩ := h; exact ⟨a, g.n p _ c rfl b, vs, g.h p _ c, n, d.mono g.f⟩
  | ot kvs => obtain ⟨a, b, vs, c, n, d⟩ := h; exact ⟨a, g.n p _ c rfl b, vs, g.h p _ c, n, d.mono g.f⟩
theorem SlR.grow (g : Gr F H F' H') {o : Option V} {x : Sl} (h : SlR K H0 F H o x) : SlR K H0 F' H' o x := by
  cases x with
  | no => trivial
  | d x => obtain ⟨v, e, r⟩ := h; exact ⟨v, e, r.mono g.f⟩
  | ol xs => obtain ⟨p, e, r⟩ := h; exact ⟨p, e, r.grow g⟩
  | ok kvs => obtain ⟨p, e, r⟩ := h; exact ⟨p, e, r.grow g⟩
  | ot kvs => obtain ⟨p, e, r⟩ := h; exact ⟨p, e, r.grow g⟩
theorem RelS.grow (r : RelS K F0 H0 F H σ ρ) (g : Gr F H F' H') : RelS K F0 H0 F' H' σ ρ :=
  ⟨r.gr.trans g, r.len, fun i x o h1 h2 => (r.sl i x o h1 h2).grow g, r.ne⟩
theorem RelS.at (r : RelS K F0 H0 F H σ ρ) {i : Nat} {x : Sl} (h : ρ[i]? = some x) : ∃ o, σ[i]? = some o ∧ SlR K H0 F H o x := by
  have hi : i < σ.length := by rw [r.len]; exact (List.getElem?_eq_some_iff.mp h).1
  exact ⟨σ[i], List.getElem?_eq_getElem hi, r.sl i x _ h (List.getElem?_eq_getElem hi)⟩
theorem RelS.get (r : RelS K F0 H0 F H σ ρ) {i : Nat} {x : D} (h : ρ[i]? = some (.d x)) : ∃ v, σ[i]? = some (some v) ∧ Rep K F v x := by
  obtain ⟨o, h1, v, rfl, h2⟩ := r.at h
  exact ⟨v, h1, h2⟩
theorem RelS.getOwn (r : RelS K F0 H0 F H σ ρ) {i : Nat} {x : Sl} (h : ρ[i]? = some x) (hx : x.own = true) : ∃ p, σ[i]? = some (some (.ref p)) ∧ OwnR K H0 F H p x := by
  obtain ⟨o, h1, h2⟩ := r.at h
  obtain ⟨p, rfl, h3⟩ := (SlR.own hx).mp h2
  exact ⟨p, h1, h3⟩
theorem get_set {α : Type} {l : List α} {i j : Nat} {a b : α} (h : (l.set i a)[j]? = some b) : (i = j ∧ a = b) ∨ (i ≠ j ∧ l[j]? = some b) := by
  by_cases e : i = j
  · subst e
    by_cases hi : i < l.length
    · rw [List.getElem?_set_self hi] at h; cases h; exact .inl ⟨rfl, rfl⟩
    · rw [List.getElem?_eq_none (by rw [List.length_set]; omega)] at h; cases h
  · rw [List.getElem?_set_ne e] at h; exact .inr ⟨e, h⟩
/-- a slot is given a datum -/
theorem RelS.set (r : RelS K F0 H0 F H σ ρ) (i : Nat) {v : V} {x : D} (h : Rep K F v x) : RelS K F0 H0 F H (σ.set i (some v)) (ρ.set i (.d x)) := by
  refine ⟨r.gr, by rw [List.length_set, List.length_set]; exact r.len, fun j y o h1 h2 => ?_, fun j k y z p h1 h2 o1 o2 h3 h4 => ?_⟩
  · rcases get_set h1 with ⟨e, rfl⟩ | ⟨e, h1⟩
    · rcases get_set h2 with ⟨_, rfl⟩ | ⟨e', _⟩
      · exact ⟨v, rfl, h⟩
      · exact absurd e e'
    · rcases get_set h2 with ⟨e', _⟩ | ⟨_, h2⟩
      · exact absurd e' e
      · exact r.sl j y o h1 h2
  · rcases get_set h1 with ⟨e, rfl⟩ | ⟨e, h1⟩
    · cases o1
    · rcases get_set h2 with ⟨e, rfl⟩ | ⟨e', h2⟩
      · cases o2
      · rcases get_set h3 with ⟨e3, _⟩ | ⟨_, h3⟩
        · exact absurd e3 e
        · rcases get_set h4 with ⟨e4, _⟩ | ⟨_, h4⟩
          · exact absurd e4 e'
          · exact r.ne j k y z p h1 h2 o1 o2 h3 h4
/-- a slot is given a new own object that no other slot owns -/
theorem RelS.setOwn (r : RelS K F0 H0 F H σ ρ) (i : Nat) {p : Addr} {x : Sl} (hx : x.own = true) (h : OwnR K H0 F H p x) (hp : ∀ (j : Nat) (y : Sl), ρ[j]? = some y → y.own = true → j ≠ i → σ[j]? ≠ some (some (.ref p))) :
    RelS K F0 H0 F H (σ.set i (some (.ref p))) (ρ.set i x) := by
  refine ⟨r.gr, by rw [List.length_set, List.length_set]; exact r.len, fun j y o h1 h2 => ?_, fun j k y z q h1 h2 o1 o2 h3 h4 => ?_⟩
  · rcases get_set h1 with ⟨e, rfl⟩ | ⟨e, h1⟩
    · rcases get_set h2 with ⟨_, rfl⟩ | ⟨e', _⟩
      · exact (SlR.own hx).mpr ⟨p, rfl, h⟩
      · exact absurd e e'
    · rcases get_set h2 with ⟨e', _⟩ | ⟨_, h2⟩
      · exact absurd e' e
      · exact r.sl j y o h1 h2
  · rcases get_set h3 with ⟨e3, e3'⟩ | ⟨e3, h3⟩
    · rcases get_set h4 with ⟨e4, _⟩ | ⟨e4, h4⟩
      · omega
      · rcases get_set h2 with ⟨e2, _⟩ | ⟨_, h2⟩
        · exact absurd e2 e4
        · cases e3'
          exact absurd h4 (hp k z h2 o2 (Ne.symm e4))
    · rcases get_set h1 with ⟨e1, _⟩ | ⟨_, h1⟩
      · exact absurd e1 e3
      · rcases get_set h4 with ⟨e4, e4'⟩ | ⟨e4, h4⟩
        · cases e4'
          exact absurd h3 (hp j y h1 o1 (Ne.symm e3))
        · rcases get_set h2 with ⟨e2, _⟩ | ⟨_, h2⟩
          · exact absurd e2 e4
          · exact r.ne j k y z q h1 h2 o1 o2 h3 h4
theorem OwnR.tells {p : Addr} {x : Sl} (h : OwnR K H0 F H p x) : H0 p = none ∧ F p = none ∧ ∃ o, H p = some o := by
  cases x with
  | no => exact h.elim
  | d x => exact h.elim
  | ol xs => obtain ⟨a, b, vs, c, _⟩ := h; exact ⟨a, b, _, c⟩
  | ok kvs => obtain ⟨a, b, vs, c, _⟩ := h; exact ⟨a, b, _, c⟩
  | ot kvs => obtain ⟨a, b, vs, c, _⟩ := h; exact ⟨a, b, _, c⟩
theorem RelS.ex (r : RelS K F0 H0 F H σ ρ) : Ex F H := r.gr.s
/-- another object at p: what does not own p stands -/
theorem OwnR.other {p q : Addr} {o : HO} (e : q ≠ p) {x : Sl} (h : OwnR K H0 F H q x) : OwnR K H0 F (upd H p o) q x := by
  cases x with
  | no => exact h
  | d x => exact h
  | ol xs => obtain ⟨a, b, vs, c, d⟩ := h; exact ⟨a, b, vs, by rw [upd_ne e]; exact c, d⟩
  | ok _ => obtain ⟨a, b, vs, c, d⟩ := h; exact ⟨a, b, vs, by rw [upd_ne e]; exact c, d⟩
  | ot _ => obtain ⟨a, b, vs, c, d⟩ := h; exact ⟨a, b, vs, by rw [upd_ne e]; exact c, d⟩
/-- the own object of slot i changes -/
theorem RelS.mut (r : RelS K F0 H0 F H σ ρ) {i : Nat} {p : Addr} {x y : Sl} {o : HO} (hx : ρ[i]? = some x) (ox : x.own = true) (hp : σ[i]? = some (some (.ref p))) (oy : y.own = true) (hy : OwnR K H0 F (upd H p o) p y) :
    RelS K F0 H0 F (upd H p o) σ (ρ.set i y) := by
  obtain ⟨q, hq, hown⟩ := r.getOwn hx ox
  rw [hp] at hq; cases hq
  obtain ⟨n0, nf, _, _⟩ := hown.tells
  have hi : i < ρ.length := (List.getElem?_eq_some_iff.mp hx).1
  have step : ∀ (j : Nat) (z : Sl) (u : Option V), i ≠ j → ρ[j]? = some z → σ[j]? = some u → SlR K H0 F (upd H p o) u z := fun j z u e h1 h2 => by
    have q := r.sl j z u h1 h2
    by_cases oz : z.own = true
    · obtain ⟨b, rfl, hb⟩ := (SlR.own oz).mp q
      refine (SlR.own oz).mpr ⟨b, rfl, hb.other fun z' => ?_⟩
      subst z'
      exact e (r.ne i j x z b hx h1 ox oz hp h2)
    · cases z with
      | no => trivial
      | d z => exact q
      | ol _ => exact absurd rfl oz
      | ok _ => exact absurd rfl oz
      | ot _ => exact absurd rfl oz
  refine ⟨⟨r.gr.f, r.gr.h.mut n0, r.gr.s.mut nf, r.gr.n⟩, by rw [List.length_set]; exact r.len, fun j z u h1 h2 => ?_, fun j k z w q h1 h2 o1 o2 h3 h4 => ?_⟩
  · rcases get_set h1 with ⟨e, rfl⟩ | ⟨e, h1⟩
    · subst e
      rw [hp] at h2; cases h2
      exact (SlR.own oy).mpr ⟨p, rfl, hy⟩
    · exact step j z u e h1 h2
  · have w1 : ∃ z', ρ[j]? = some z' ∧ z'.own = true := by
      rcases get_set h1 with ⟨e, _⟩ | ⟨e, h1⟩
      · subst e; exact ⟨x, hx, ox⟩
      · exact ⟨z, h1, o1⟩
    have w2 : ∃ z', ρ[k]? = some z' ∧ z'.own = true := by
      rcases get_set h2 with ⟨e, _⟩ | ⟨e, h2⟩
      · subst e; exact ⟨x, hx, ox⟩
      · exact ⟨w, h2, o2⟩
    obtain ⟨z1, a1, b1⟩ := w1
    obtain ⟨z2, a2, b2⟩ := w2
    exact r.ne j k z1 z2 q a1 a2 b1 b2 h3 h4
/-- a new object at p, known to none yet -/
theorem RelS.fresh (r : RelS K F0 H0 F H σ ρ) {p : Addr} (hp : H p = none) : ∀ (j : Nat) (y : Sl), ρ[j]? = some y → y.own = true → σ[j]? ≠ some (some (.ref p)) := fun j y h1 h2 h3 => by
  obtain ⟨q, hq, ho⟩ := r.getOwn h1 h2
  rw [h3] at hq; cases hq
  obtain ⟨_, _, o, e⟩ := ho.tells
  rw [hp] at e; cases e
/-- slots forgotten -/
theorem RelS.forget (r : RelS K F0 H0 F H σ ρ) (i : Nat) (o : Option V) : RelS K F0 H0 F H (σ.set i o) (ρ.set i .no) := by
  refine ⟨r.gr, by rw [List.length_set, List.length_set]; exact r.len, fun j y u h1 h2 => ?_, fun j k y z p h1 h2 o1 o2 h3 h4 => ?_⟩
  · rcases get_set h1 with ⟨e, rfl⟩ | ⟨e, h1⟩
    · trivial
    · rcases get_set h2 with ⟨e', _⟩ | ⟨_, h2⟩
      · exact absurd e' e
      · exact r.sl j y u h1 h2
  · rcases get_set h1 with ⟨e, rfl⟩ | ⟨e, h1⟩
    · cases o1
    · rcases get_set h2 with ⟨e, rfl⟩ | ⟨e', h2⟩
      · cases o2
      · rcases get_set h3 with ⟨e3, _⟩ | ⟨_, h3⟩
        · exact absurd e3 e
        · rcases get_set h4 with ⟨e4, _⟩ | ⟨_, h4⟩
          · exact absurd e4 e'
          · exact r.ne j k y z p h1 h2 o1 o2 h3 h4
/-- the own object of slot i is frozen -/
def Sl.frz : Sl → D
  | .ol xs => .lst xs
  | .ok kvs => .dk (kvs.map (·.1)) (kvs.map (·.2))
  | .ot kvs => .dt (kvs.map (·.1)) (kvs.map (·.2))
  | .d x => x
  | .no => .non
theorem OwnR.frz {p : Addr} {x : Sl} (h : OwnR K H0 F H p x) : ∃ o, H p = some o ∧ Rep K (upd F p o) (.ref p) x.frz := by
  cases x with
  | no => exact h.elim
  | d x => exact h.elim
  | ol xs => obtain ⟨a, b, vs, c, d⟩ := h; exact ⟨_, c, .lst upd_same (d.mono (Ex.new b))⟩
  | ok kvs =>
    obtain ⟨a, b, ws, c, n, d⟩ := h
    exact ⟨_, c, .dk (vs := ws.map (·.2)) upd_same (by rw [← d.keys, zip_self]; rfl) (by rw [← d.keys]; simp) (d.mono (Ex.new b)).vals⟩
  | ot kvs =>
    obtain ⟨a, b, ws, c, n, d⟩ := h
    exact ⟨_, c, .dt (vs := ws.map (·.2)) upd_same (by rw [← d.keys, zip_self]; rfl) (by rw [← d.keys]; simp) (d.mono (Ex.new b)).vals⟩
theorem RelS.freeze (r : RelS K F0 H0 F H σ ρ) {i : Nat} {x : Sl} (hx : ρ[i]? = some x) (ox : x.own = true) : ∃ F', Ex F F' ∧ RelS K F0 H0 F' H σ (ρ.set i (.d x.frz)) := by
  obtain ⟨p, hp, hown⟩ := r.getOwn hx ox
  obtain ⟨n0, nf, _⟩ := hown.tells
  obtain ⟨o, ho, hr⟩ := hown.frz
  have ex : Ex F (upd F p o) := Ex.new nf
  have others : ∀ (j : Nat) (z : Sl) (u : Option V), i ≠ j → ρ[j]? = some z → σ[j]? = some u → SlR K H0 (upd F p o) H u z := fun j z u e h1 h2 => by
    have q := r.sl j z u h1 h2
    by_cases oz : z.own = true
    · obtain ⟨b, rfl, hb⟩ := (SlR.own oz).mp q
      have nb : b ≠ p := fun z' => by
        subst z'
        exact e (r.ne i j x z b hx h1 ox oz hp h2)
      refine (SlR.own oz).mpr ⟨b, rfl, ?_⟩
      cases z with
      | no => exact hb
      | d z => exact hb
      | ol xs => obtain ⟨a, b', vs, c, d⟩ := hb; exact ⟨a, by rw [upd_ne nb]; exact b', vs, c, d.mono ex⟩
      | ok kvs => obtain ⟨a, b', vs, c, n, d⟩ := hb; exact ⟨a, by rw [upd_ne nb]; exact b', vs, c, n, d.mono ex⟩
      | ot kvs => obtain ⟨a, b', vs, c, n, d⟩ := hb; exact ⟨a, by rw [upd_ne nb]; exact b', vs, c, n, d.mono ex⟩
    · cases z with
      | no => trivial
      | d z => obtain ⟨v, e, q⟩ := q; exact ⟨v, e, q.mono ex⟩
      | ol _ => exact absurd rfl oz
      | ok _ => exact absurd rfl oz
      | ot _ => exact absurd rfl oz
  refine ⟨upd F p o, ex, r.gr.freeze n0 nf ho, by rw [List.length_set]; exact r.len, fun j z u h1 h2 => ?_, fun j k z w q h1 h2 o1 o2 h3 h4 => ?_⟩
  · rcases get_set h1 with ⟨e, rfl⟩ | ⟨e, h1⟩
    · subst e
      rw [hp] at h2; cases h2
      exact ⟨_, rfl, hr⟩
    · exact others j z u e h1 h2
  · rcases get_set h1 with ⟨e, rfl⟩ | ⟨e, h1⟩
    · cases o1
    · rcases get_set h2 with ⟨e, rfl⟩ | ⟨e', h2⟩
      · cases o2
      · exact r.ne j k z w q h1 h2 o1 o2 h3 h4
end
end DL
set_option Elab.async false
set_option linter.all false
set_option maxRecDepth 100000
set_option maxHeartbeats 1000000
/-! What readings come to, over plain data: expressions. -/
namespace DL
open PySem L2
section
variable (K : PySem.W.Frag)
def EvD (te : TE) (ρ : List Sl) (d : D) : Prop := ∀ (F0 H0 F H : Hp) (σ : St), RelS K F0 H0 F H σ ρ → ∀ Q : VK, (∀ v F' H', Gr F H F' H' → Rep K F' v d → Q v H') → te σ H Q
/-- a new list that nobody else knows -/
def EvL (te : TE) (ρ : List Sl) (xs : List D) : Prop := ∀ (F0 H0 F H : Hp) (σ : St), RelS K F0 H0 F H σ ρ → ∀ Q : VK,
  (∀ p vs F' H', Gr F H F' H' → H p = none → F' p = none → H' p = some (.lst vs) → Reps K F' vs xs → Q (.ref p) H') → te σ H Q
def TvD (tt : TT) (ρ : List Sl) (b : Bool) : Prop := ∀ (F0 H0 F H : Hp) (σ : St), RelS K F0 H0 F H σ ρ → ∀ Q : Bool → Hp → Prop, (∀ F' H', Gr F H F' H' → Q b H') → tt σ H Q
def AvD (ta : TA) (ρ : List Sl) (ds : List D) : Prop := ∀ (F0 H0 F H : Hp) (σ : St), RelS K F0 H0 F H σ ρ → ∀ Q : List V → Hp → Prop, (∀ vs F' H', Gr F H F' H' → Reps K F' vs ds → Q vs H') → ta σ H Q
/-- a list, or a tuple, that is only read here -/
def EvSL (te : TE) (ρ : List Sl) (ds : List D) : Prop := ∀ (F0 H0 F H : Hp) (σ : St), RelS K F0 H0 F H σ ρ → ∀ Q : VK, (∀ p vs F' H', Gr F H F' H' → SqL K H' p vs → Reps K F' vs ds → Q (.ref p) H') → te σ H Q
def EvST (te : TE) (ρ : List Sl) (ds : List D) : Prop := ∀ (F0 H0 F H : Hp) (σ : St), RelS K F0 H0 F H σ ρ → ∀ Q : VK, (∀ p vs F' H', Gr F H F' H' → SqT K H' p vs → Reps K F' vs ds → Q (.ref p) H') → te σ H Q
/-- operations by values -/
def RvD (r : R2) (x y z : D) : Prop := ∀ (F H : Hp), Ex F H → ∀ (v u : V), Rep K F v x → Rep K F u y → ∀ Q : VK, (∀ w F' H', Gr F H F' H' → Rep K F' w z → Q w H') → r v u H Q
def RvL (r : R2) (x y : D) (zs : List D) : Prop := ∀ (F H : Hp), Ex F H → ∀ (v u : V), Rep K F v x → Rep K F u y → ∀ Q : VK, (∀ p vs F' H', Gr F H F' H' → H p = none → F' p = none → H' p = some (.lst vs) → Reps K F' vs zs → Q (.ref p) H') → r v u H Q
def RcD (r : List V → Hp → VK → Prop) (ds : List D) (z : D) : Prop := ∀ (F H : Hp), Ex F H → ∀ vs, Reps K F vs ds → ∀ Q : VK, (∀ w F' H', Gr F H F' H' → Rep K F' w z → Q w H') → r vs H Q
def RcL (r : List V → Hp → VK → Prop) (ds : List D) (zs : List D) : Prop := ∀ (F H : Hp), Ex F H → ∀ vs, Reps K F vs ds → ∀ Q : VK, (∀ p vs F' H', Gr F H F' H' → H p = none → F' p = none → H' p = some (.lst vs) → Reps K F' vs zs → Q (.ref p) H') → r vs H Q
end
section
variable {K : PySem.W.Frag} {ρ : List Sl} {te ta tb : TE} {d x y z : D} {r r' : R2} {xs ys ds zs : List D} {tt tu : TT} {t : TA}
theorem ev_of_L (h : EvL K te ρ xs) : EvD K te ρ (.lst xs) := fun F0 H0 F H σ R Q q => h F0 H0 F H σ R Q fun p vs F' H' g hp hf h' rs =>
  q _ (upd F' p (.lst vs)) H' (g.freeze hp hf h') (.lst upd_same (rs.mono (Ex.new hf)))
theorem ev_var {i : Nat} (h : ρ[i]? = some (.d x)) : EvD K (tVar i) ρ x := fun F0 H0 F H σ R Q q => by
  obtain ⟨v, h1, h2⟩ := R.get h
  exact ⟨v, h1, q v F H (.refl R.ex) h2⟩
theorem ev_int {i : Int} : EvD K (tC (.int i)) ρ (.int i) := fun F0 H0 F H σ R Q q => q _ F H (.refl R.ex) (.int i)
theorem ev_str {s : Str} : EvD K (tC (.str s)) ρ (.str s) := fun F0 H0 F H σ R Q q => q _ F H (.refl R.ex) (.str s)
theorem ev_bl {b : Bool} : EvD K (tC (.bl b)) ρ (.bl b) := fun F0 H0 F H σ R Q q => q _ F H (.refl R.ex) (.bl b)
theorem ev_non : EvD K (tC .non) ρ .non := fun F0 H0 F H σ R Q q => q _ F H (.refl R.ex) .non
theorem ev_eq (h : EvD K te ρ x) (e : x = y) : EvD K te ρ y := e ▸ h
theorem ev_op (ha : EvD K ta ρ x) (hb : EvD K tb ρ y) (hr : RvD K r x y z) : EvD K (tOp r ta tb) ρ z := fun F0 H0 F H σ R Q q =>
  ha F0 H0 F H σ R _ fun v F1 H1 g1 r1 => hb F0 H0 F1 H1 σ (R.grow g1) _ fun u F2 H2 g2 r2 => hr F2 H2 g2.s v u (r1.mono g2.f) r2 Q fun w F3 H3 g3 r3 => q w F3 H3 ((g1.trans g2).trans g3) r3
theorem evl_op (ha : EvD K ta ρ x) (hb : EvD K tb ρ y) (hr : RvL K r x y zs) : EvL K (tOp r ta tb) ρ zs := fun F0 H0 F H σ R Q q =>
  ha F0 H0 F H σ R _ fun v F1 H1 g1 r1 => hb F0 H0 F1 H1 σ (R.grow g1) _ fun u F2 H2 g2 r2 => hr F2 H2 g2.s v u (r1.mono g2.f) r2 Q fun p vs F3 H3 g3 a b c e => by
    refine q p vs F3 H3 ((g1.trans g2).trans g3) ?_ b c e
    exact g1.h.back (g2.h.back a)
theorem ev_un {ru : V → Hp → VK → Prop} {f : Int → Int} {i : Int} (ha : EvD K ta ρ (.int i)) (hr : ∀ H Q, Q (.int (f i)) H → ru (.int i) H Q) : EvD K (tUn ru ta) ρ (.int (f i)) := fun F0 H0 F H σ R Q q =>
  ha F0 H0 F H σ R _ fun v F1 H1 g1 r1 => by
    cases r1
    exact hr H1 Q (q _ F1 H1 g1 (.int _))
theorem ev_neg {i : Int} (ha : EvD K ta ρ (.int i)) : EvD K (tUn (rU fun i => .int (-i)) ta) ρ (.int (-i)) := ev_un (f := fun i => -i) ha fun H Q q => ⟨i, rfl, q⟩
/-! ### operations -/
theorem rvD_l (h : RvD K r x y z) : RvD K (fun x y H Q => r x y H Q ∨ r' x y H Q) x y z := fun F H e v u a b Q q => .inl (h F H e v u a b Q q)
theorem rvD_r (h : RvD K r' x y z) : RvD K (fun x y H Q => r x y H Q ∨ r' x y H Q) x y z := fun F H e v u a b Q q => .inr (h F H e v u a b Q q)
theorem rvL_l (h : RvL K r x y zs) : RvL K (fun x y H Q => r x y H Q ∨ r' x y H Q) x y zs := fun F H e v u a b Q q => .inl (h F H e v u a b Q q)
theorem rvL_r (h : RvL K r' x y zs) : RvL K (fun x y H Q => r x y H Q ∨ r' x y H Q) x y zs := fun F H e v u a b Q q => .inr (h F H e v u a b Q q)
theorem rv_I0 {g : Int → Int → Int} {i j : Int} : RvD K (rI0 fun i j => .int (g i j)) (.int i) (.int j) (.int (g i j)) := fun F H e v u a b Q q => by
  cases a; cases b
  exact ⟨i, j, rfl, rfl, q _ F H (.refl e) (.int _)⟩
theorem rv_I {C : Int → Int → Prop} {g : Int → Int → Int} {i j : Int} (hc : C i j) : RvD K (rI C fun i j => .int (g i j)) (.int i) (.int j) (.int (g i j)) := fun F H e v u a b Q q => by
  cases a; cases b
  exact ⟨i, j, rfl, rfl, hc, q _ F H (.refl e) (.int _)⟩
theorem rv_B0 {g : Int → Int → Bool} {i j : Int} : RvD K (rI0 fun i j => .bl (g i j)) (.int i) (.int j) (.bl (g i j)) := fun F H e v u a b Q q => by
  cases a; cases b
  exact ⟨i, j, rfl, rfl, q _ F H (.refl e) (.bl _)⟩
theorem rv_addS {s t : Str} (hl : s.length + t.length ≤ 100000) : RvD K (fun x y H Q => ∃ i j, x = .str i ∧ y = .str j ∧ i.length + j.length ≤ sizeLine ∧ Q (.str (i ++ j)) H) (.str s) (.str t) (.str (s ++ t)) := fun F H e v u a b Q q => by
  cases a; cases b
  exact ⟨s, t, rfl, rfl, Nat.le_trans hl (by decide), q _ F H (.refl e) (.str _)⟩
theorem sz_of {n : Nat} (h : n ≤ 16777216) : n ≤ sizeLine := by rw [sizeLine_eq]; exact h
theorem rv_cat (hl : xs.length + ys.length ≤ 16777216) : RvL K rCat (.lst xs) (.lst ys) (xs ++ ys) := fun F H e v u a b Q q => by
  cases a with
  | lst ha ra =>
    cases b with
    | lst hb rb =>
      refine ⟨_, _, _, _, rfl, rfl, e _ _ ha, e _ _ hb, ?_, fun p hp => ?_⟩
      · rw [ra.length, rb.length]; exact sz_of hl
      · exact q p _ F _ (.own e hp) hp (e.back hp) upd_same (ra.append rb)
theorem reps_rep {x : List D} {vs : List V} {F : Hp} (h : Reps K F vs x) : ∀ n : Nat, Reps K F (List.replicate n vs).flatten (List.replicate n x).flatten
  | 0 => .nil
  | n + 1 => by
    rw [List.replicate_succ, List.replicate_succ, List.flatten_cons, List.flatten_cons]
    exact h.append (reps_rep h n)
theorem rv_rep {k : Int} (h1 : -(2 ^ 63) ≤ k) (h2 : k < 2 ^ 63) (hl : xs.length * k.toNat ≤ 16777216) : RvL K rRep (.lst xs) (.int k) (List.replicate k.toNat xs).flatten := fun F H e v u a b Q q => by
  cases a with
  | lst ha ra =>
    cases b
    refine ⟨_, _, _, rfl, rfl, e _ _ ha, h1, h2, ?_, fun p hp => ?_⟩
    · rw [ra.length]; exact sz_of hl
    · exact q p _ F _ (.own e hp) hp (e.back hp) upd_same (reps_rep ra _)
mutual
/-- plain data as the library's data -/
def D.py : D → PyData
  | .non => .none
  | .bl b => .bool b
  | .int i => .int i
  | .str x => .str x
  | .lst ds => .list (D.pys ds)
  | .tup ds => .tuple (D.pys ds)
  | .scr ns => .list (ns.map PyData.int)
  | .dk _ _ => .none
  | .dt _ _ => .none
  | .ins _ _ _ => .none
  | .ty _ => .none
  | .cls _ => .none
def D.pys : List D → List PyData
  | [] => []
  | d :: ds => d.py :: D.pys ds
end
mutual
/-- none of dicts and instances within -/
def D.pl : D → Bool
  | .lst ds => D.pls ds
  | .tup ds => D.pls ds
  | .dk _ _ => false
  | .dt _ _ => false
  | .ins _ _ _ => false
  | .ty _ => false
  | .cls _ => false
  | _ => true
def D.pls : List D → Bool
  | [] => true
  | d :: ds => d.pl && D.pls ds
end
theorem dp_ints {F : Hp} : ∀ ns : List Int, DpAll K F (ns.map V.int) (ns.map PyData.int)
  | [] => .nil
  | n :: ns => .cons (.int n) (dp_ints ns)
mutual
theorem Rep.dp {F : Hp} : ∀ {v : V} {d : D}, Rep K F v d → d.pl = true → Dp K F v d.py
  | _, _, .non, _ => .non
  | _, _, .bl b, _ => .bl b
  | _, _, .int i, _ => .int i
  | _, _, .str x, _ => .str x
  | _, _, .lst h r, p => .lst (SqL.of h) (Reps.dp r p)
  | _, _, .tup h r, p => .tup (SqT.of h) (Reps.dp r p)
  | _, _, .scr h, _ => .lst h (dp_ints _)
  | _, _, .dk _ _ _ _, p => nomatch p
  | _, _, .dt _ _ _ _, p => nomatch p
  | _, _, .ins _ _ _, p => nomatch p
  | _, _, .ty _, p => nomatch p
  | _, _, .cls _, p => nomatch p
theorem Reps.dp {F : Hp} : ∀ {vs : List V} {ds : List D}, Reps K F vs ds → D.pls ds = true → DpAll K F vs (D.pys ds)
  | _, _, .nil, _ => .nil
  | _, _, .cons h r, p => by
    have p' := Bool.and_eq_true_iff.mp p
    exact .cons (Rep.dp h p'.1) (Reps.dp r p'.2)
end
mutual
theorem Dp.up {F H : Hp} (e : Ex F H) : ∀ {v : V} {d : PyData}, Dp K F v d → Dp K H v d
  | _, _, .non => .non
  | _, _, .bl b => .bl b
  | _, _, .int i => .int i
  | _, _, .str x => .str x
  | _, _, .lst h r => .lst (e.sl h) (DpAll.up e r)
  | _, _, .tup h r => .tup (e.st h) (DpAll.up e r)
theorem DpAll.up {F H : Hp} (e : Ex F H) : ∀ {vs : List V} {ds : List PyData}, DpAll K F vs ds → DpAll K H vs ds
  | _, _, .nil => .nil
  | _, _, .cons h r => .cons (Dp.up e h) (DpAll.up e r)
end
def D.ok (d : D) : Bool := d.pl && SeqAt.shaped d.py
theorem rv_eqD (hx : x.ok = true) (hy : y.ok = true) : RvD K (rEqD K) x y (.bl (PyData.eqv x.py y.py)) := fun F H e v u a b Q q => by
  have h1 := Bool.and_eq_true_iff.mp hx
  have h2 := Bool.and_eq_true_iff.mp hy
  exact ⟨x.py, y.py, Dp.up e (a.dp h1.1), Dp.up e (b.dp h2.1), h1.2, h2.2, q _ F H (.refl e) (.bl _)⟩
theorem rv_neD (hx : x.ok = true) (hy : y.ok = true) : RvD K (rNeD K) x y (.bl (!PyData.eqv x.py y.py)) := fun F H e v u a b Q q => by
  have h1 := Bool.and_eq_true_iff.mp hx
  have h2 := Bool.and_eq_true_iff.mp hy
  exact ⟨x.py, y.py, Dp.up e (a.dp h1.1), Dp.up e (b.dp h2.1), h1.2, h2.2, q _ F H (.refl e) (.bl _)⟩
/-! ### sequences that are read -/
theorem sl_d (h : EvD K te ρ (.lst ds)) : EvSL K te ρ ds := fun F0 H0 F H σ R Q q => h F0 H0 F H σ R Q fun v F' H' g r => by
  cases r with
  | lst h rs => exact q _ _ F' H' g (SqL.of (g.s _ _ h)) rs
theorem sl_scr {ns : List Int} (h : EvD K te ρ (.scr ns)) : EvSL K te ρ (ns.map D.int) := fun F0 H0 F H σ R Q q => h F0 H0 F H σ R Q fun v F' H' g r => by
  cases r with
  | scr h => exact q _ _ F' H' g (g.s.sl h) Reps.ints
theorem sl_own {i : Nat} (h : ρ[i]? = some (.ol ds)) : EvSL K (tVar i) ρ ds := fun F0 H0 F H σ R Q q => by
  obtain ⟨p, h1, n0, nf, vs, h2, rs⟩ := R.getOwn h rfl
  exact ⟨_, h1, q p vs F H (.refl R.ex) (SqL.of h2) rs⟩
theorem st_d (h : EvD K te ρ (.tup ds)) : EvST K te ρ ds := fun F0 H0 F H σ R Q q => h F0 H0 F H σ R Q fun v F' H' g r => by
  cases r with
  | tup h rs => exact q _ _ F' H' g (SqT.of (g.s _ _ h)) rs
theorem atI_reps {F : Hp} {vs : List V} {ds : List D} (r : Reps K F vs ds) {i : Int} {d : D} (h : atI ds i = some d) : ∃ v, atI vs i = some v ∧ Rep K F v d := by
  unfold atI at h ⊢
  rw [r.length]
  cases e : ixN ds.length i with
  | none => rw [e] at h; cases h
  | some j =>
    rw [e] at h
    exact r.getD h
/-- x[i] of a list, a tuple, a text -/
def rIxA (K : PySem.W.Frag) : R2 := fun x y H Q => rIxL K x y H Q ∨ rIxT K x y H Q ∨ rIxS x y H Q
theorem ix_any {X : Cx} : IxR X (rIxA X.K) := ix_list.or (ix_tup.or ix_str)
theorem ev_ixL {i : Int} (ha : EvSL K ta ρ ds) (hb : EvD K tb ρ (.int i)) (h : atI ds i = some d) : EvD K (tOp (rIxA K) ta tb) ρ d := fun F0 H0 F H σ R Q q =>
  ha F0 H0 F H σ R _ fun p vs F1 H1 g1 s1 r1 => hb F0 H0 F1 H1 σ (R.grow g1) _ fun u F2 H2 g2 r2 => by
    cases r2
    obtain ⟨v, e, rv⟩ := atI_reps (r1.mono g2.f) h
    exact .inl ⟨p, vs, i, v, rfl, rfl, g2.h.sl s1, e, q v F2 H2 (g1.trans g2) rv⟩
theorem ev_ixT {i : Int} (ha : EvST K ta ρ ds) (hb : EvD K tb ρ (.int i)) (h : atI ds i = some d) : EvD K (tOp (rIxA K) ta tb) ρ d := fun F0 H0 F H σ R Q q =>
  ha F0 H0 F H σ R _ fun p vs F1 H1 g1 s1 r1 => hb F0 H0 F1 H1 σ (R.grow g1) _ fun u F2 H2 g2 r2 => by
    cases r2
    obtain ⟨v, e, rv⟩ := atI_reps (r1.mono g2.f) h
    exact .inr (.inl ⟨p, vs, i, v, rfl, rfl, g2.h.st s1, e, q v F2 H2 (g1.trans g2) rv⟩)
theorem ev_ixS {i : Int} {s : Str} {c : Nat} (ha : EvD K ta ρ (.str s)) (hb : EvD K tb ρ (.int i)) (hl : s.length ≤ 100000) (h : atI s.cps.toList i = some c) : EvD K (tOp (rIxA K) ta tb) ρ (.str ⟨#[c]⟩) := fun F0 H0 F H σ R Q q =>
  ha F0 H0 F H σ R _ fun v F1 H1 g1 r1 => hb F0 H0 F1 H1 σ (R.grow g1) _ fun u F2 H2 g2 r2 => by
    cases r1; cases r2
    exact .inr (.inr ⟨s, i, c, rfl, rfl, Nat.le_trans hl (by decide), h, q _ F2 H2 (g1.trans g2) (.str _)⟩)
/-! ### argument lists, displays, calls -/
theorem av_nil : AvD K tNil ρ [] := fun F0 H0 F H σ R Q q => q _ F H (.refl R.ex) .nil
theorem av_cons (h : EvD K te ρ d) (hr : AvD K t ρ ds) : AvD K (tCons te t) ρ (d :: ds) := fun F0 H0 F H σ R Q q =>
  h F0 H0 F H σ R _ fun v F1 H1 g1 r1 => hr F0 H0 F1 H1 σ (R.grow g1) _ fun vs F2 H2 g2 r2 => q _ F2 H2 (g1.trans g2) (.cons (r1.mono g2.f) r2)
theorem av_starL (h : EvSL K te ρ xs) (hr : AvD K t ρ ds) : AvD K (StX.tStar K te t) ρ (xs ++ ds) := fun F0 H0 F H σ R Q q =>
  h F0 H0 F H σ R _ fun p us F1 H1 g1 s1 r1 => ⟨p, us, rfl, .inr s1, hr F0 H0 F1 H1 σ (R.grow g1) _ fun vs F2 H2 g2 r2 => q _ F2 H2 (g1.trans g2) ((r1.mono g2.f).append r2)⟩
theorem av_starT (h : EvST K te ρ xs) (hr : AvD K t ρ ds) : AvD K (StX.tStar K te t) ρ (xs ++ ds) := fun F0 H0 F H σ R Q q =>
  h F0 H0 F H σ R _ fun p us F1 H1 g1 s1 r1 => ⟨p, us, rfl, .inl s1, hr F0 H0 F1 H1 σ (R.grow g1) _ fun vs F2 H2 g2 r2 => q _ F2 H2 (g1.trans g2) ((r1.mono g2.f).append r2)⟩
theorem ev_tup (h : AvD K t ρ ds) (hl : ds.length ≤ 16777216) : EvD K (tTup t) ρ (.tup ds) := fun F0 H0 F H σ R Q q =>
  h F0 H0 F H σ R _ fun vs F1 H1 g1 r1 => ⟨by rw [r1.length]; exact sz_of hl, fun p hp => q _ (upd F1 p (.tup vs)) _ (g1.trans (.new g1.s hp)) (.tup upd_same (r1.mono (Ex.new (g1.s.back hp))))⟩
theorem evl_lst (h : AvD K t ρ ds) (hl : ds.length ≤ 16777216) : EvL K (tLst t) ρ ds := fun F0 H0 F H σ R Q q =>
  h F0 H0 F H σ R _ fun vs F1 H1 g1 r1 => ⟨by rw [r1.length]; exact sz_of hl, fun p hp => q p vs F1 _ (g1.trans (.own g1.s hp)) (g1.h.back hp) (g1.s.back hp) upd_same r1⟩
theorem ev_cb {rc : List V → Hp → VK → Prop} (h : AvD K t ρ ds) (hr : RcD K rc ds z) : EvD K (tCB rc t) ρ z := fun F0 H0 F H σ R Q q =>
  h F0 H0 F H σ R _ fun vs F1 H1 g1 r1 => hr F1 H1 g1.s vs r1 Q fun w F2 H2 g2 r2 => q w F2 H2 (g1.trans g2) r2
theorem evl_cb {rc : List V → Hp → VK → Prop} (h : AvD K t ρ ds) (hr : RcL K rc ds zs) : EvL K (tCB rc t) ρ zs := fun F0 H0 F H σ R Q q =>
  h F0 H0 F H σ R _ fun vs F1 H1 g1 r1 => hr F1 H1 g1.s vs r1 Q fun p us F2 H2 g2 a b c e => q p us F2 H2 (g1.trans g2) (g1.h.back a) b c e
/-- a call on one sequence that is only read -/
theorem ev_cbSL {rc : List V → Hp → VK → Prop} (h : EvSL K te ρ ds) (hr : ∀ (F H : Hp), Ex F H → ∀ p vs, SqL K H p vs → Reps K F vs ds → ∀ Q : VK, (∀ w F' H', Gr F H F' H' → Rep K F' w z → Q w H') → rc [.ref p] H Q) : EvD K (tCB rc (tCons te tNil)) ρ z := fun F0 H0 F H σ R Q q =>
  h F0 H0 F H σ R _ fun p vs F1 H1 g1 s1 r1 => hr F1 H1 g1.s p vs s1 r1 Q fun w F2 H2 g2 r2 => q w F2 H2 (g1.trans g2) r2
theorem evl_cbSL {rc : List V → Hp → VK → Prop} (h : EvSL K te ρ ds) (hr : ∀ (F H : Hp), Ex F H → ∀ p vs, SqL K H p vs → Reps K F vs ds → ∀ Q : VK, (∀ p vs F' H', Gr F H F' H' → H p = none → F' p = none → H' p = some (.lst vs) → Reps K F' vs zs → Q (.ref p) H') → rc [.ref p] H Q) : EvL K (tCB rc (tCons te tNil)) ρ zs := fun F0 H0 F H σ R Q q =>
  h F0 H0 F H σ R _ fun p vs F1 H1 g1 s1 r1 => hr F1 H1 g1.s p vs s1 r1 Q fun w us F2 H2 g2 a b c e => q w us F2 H2 (g1.trans g2) (g1.h.back a) b c e
/-! ### tests, ifs, truth -/
theorem tv_test {b : Bool} (h : EvD K te ρ (.bl b)) : TvD K (tTest te) ρ b := fun F0 H0 F H σ R Q q => h F0 H0 F H σ R _ fun v F1 H1 g1 r1 => by
  cases r1
  exact ⟨b, rfl, q F1 H1 g1⟩
theorem tv_B {b : Bool} (h : EvD K te ρ (.bl b)) : TvD K (tB te) ρ b := fun F0 H0 F H σ R Q q => h F0 H0 F H σ R _ fun v F1 H1 g1 r1 => by
  cases r1
  exact ⟨b, rfl, q F1 H1 g1⟩
theorem tv_eq {a b : Bool} (h : TvD K tt ρ a) (e : a = b) : TvD K tt ρ b := e ▸ h
theorem tv_not {b : Bool} (h : TvD K tt ρ b) : TvD K (tNot tt) ρ (!b) := fun F0 H0 F H σ R Q q => h F0 H0 F H σ R _ fun F1 H1 g1 => q F1 H1 g1
theorem tv_and {a b : Bool} (h1 : TvD K tt ρ a) (h2 : a = true → TvD K tu ρ b) : TvD K (tAnd tt tu) ρ (a && b) := fun F0 H0 F H σ R Q q => h1 F0 H0 F H σ R _ fun F1 H1 g1 => by
  cases a with
  | true =>
    show tu σ H1 Q
    exact h2 rfl F0 H0 F1 H1 σ (R.grow g1) Q fun F2 H2 g2 => q F2 H2 (g1.trans g2)
  | false => exact q F1 H1 g1
theorem tv_or {a b : Bool} (h1 : TvD K tt ρ a) (h2 : a = false → TvD K tu ρ b) : TvD K (tOr tt tu) ρ (a || b) := fun F0 H0 F H σ R Q q => h1 F0 H0 F H σ R _ fun F1 H1 g1 => by
  cases a with
  | true => exact q F1 H1 g1
  | false =>
    show tu σ H1 Q
    exact h2 rfl F0 H0 F1 H1 σ (R.grow g1) Q fun F2 H2 g2 => q F2 H2 (g1.trans g2)
theorem ev_andV {a b : Bool} (h1 : EvD K ta ρ (.bl a)) (h2 : a = true → EvD K tb ρ (.bl b)) : EvD K (tAndV ta tb) ρ (.bl (a && b)) := fun F0 H0 F H σ R Q q => h1 F0 H0 F H σ R _ fun v F1 H1 g1 r1 => by
  cases r1
  refine ⟨a, rfl, ?_⟩
  cases a with
  | true =>
    show tb σ H1 Q
    exact h2 rfl F0 H0 F1 H1 σ (R.grow g1) Q fun w F2 H2 g2 r2 => q w F2 H2 (g1.trans g2) r2
  | false => exact q _ F1 H1 g1 (.bl _)
theorem ev_orV {a b : Bool} (h1 : EvD K ta ρ (.bl a)) (h2 : a = false → EvD K tb ρ (.bl b)) : EvD K (tOrV ta tb) ρ (.bl (a || b)) := fun F0 H0 F H σ R Q q => h1 F0 H0 F H σ R _ fun v F1 H1 g1 r1 => by
  cases r1
  refine ⟨a, rfl, ?_⟩
  cases a with
  | true => exact q _ F1 H1 g1 (.bl _)
  | false =>
    show tb σ H1 Q
    exact h2 rfl F0 H0 F1 H1 σ (R.grow g1) Q fun w F2 H2 g2 r2 => q w F2 H2 (g1.trans g2) r2
theorem ev_notV {a : Bool} (h1 : EvD K ta ρ (.bl a)) : EvD K (tNotV ta) ρ (.bl (!a)) := fun F0 H0 F H σ R Q q => h1 F0 H0 F H σ R _ fun v F1 H1 g1 r1 => by
  cases r1
  exact ⟨a, rfl, q _ F1 H1 g1 (.bl _)⟩
theorem ev_if {b : Bool} (h : TvD K tt ρ b) (h1 : b = true → EvD K ta ρ d) (h2 : b = false → EvD K tb ρ d) : EvD K (tIf tt ta tb) ρ d := fun F0 H0 F H σ R Q q => h F0 H0 F H σ R _ fun F1 H1 g1 => by
  cases b with
  | true =>
    show ta σ H1 Q
    exact h1 rfl F0 H0 F1 H1 σ (R.grow g1) Q fun w F2 H2 g2 r2 => q w F2 H2 (g1.trans g2) r2
  | false =>
    show tb σ H1 Q
    exact h2 rfl F0 H0 F1 H1 σ (R.grow g1) Q fun w F2 H2 g2 r2 => q w F2 H2 (g1.trans g2) r2
/-- len of a list, a tuple, a text -/
def rLenA (K : PySem.W.Frag) : List V → Hp → VK → Prop := fun xs H Q => (∃ p ys, xs = [.ref p] ∧ (SqL K H p ys ∨ SqT K H p ys) ∧ Q (.int ys.length) H)
theorem cr_lenA {X : Cx} : CallR X (.builtin "len") (rLenA X.K) := call_len_seq
theorem ev_lenL (h : EvSL K te ρ ds) : EvD K (tCB (rLenA K) (tCons te tNil)) ρ (.int (ds.length : Int)) := ev_cbSL h fun F H e p vs s r Q q => ⟨p, vs, rfl, .inl s, by rw [r.length]; exact q _ F H (.refl e) (.int _)⟩
theorem ev_lenT (h : EvST K te ρ ds) : EvD K (tCB (rLenA K) (tCons te tNil)) ρ (.int (ds.length : Int)) := fun F0 H0 F H σ R Q q =>
  h F0 H0 F H σ R _ fun p vs F1 H1 g1 s1 r1 => ⟨p, vs, rfl, .inr s1, by rw [r1.length]; exact q _ F1 H1 g1 (.int _)⟩
end
end DL
set_option Elab.async false
set_option linter.all false
set_option maxRecDepth 100000
set_option maxHeartbeats 1000000
/-! What readings come to, over plain data: statements, loops, comprehensions, calls. -/
namespace DL
open PySem L2
/-- how a statement ends -/
inductive Out where
  | nx (ρ : List Sl) | rt (d : D) | bk (ρ : List Sl) | ct (ρ : List Sl) | er (C : Addr) (fs : List (Str × D)) (ρ : List Sl)
/-- the fields of an exception -/
def XR (K : PySem.W.Frag) (F H : Hp) (od : Option Addr) (fs : List (Str × D)) : Prop :=
  (fs = [] ∧ od = none) ∨ fs ≠ [] ∧ ∃ d fv, od = some d ∧ H d = some (.xd fv) ∧ ∀ f x, fs.lookup f = some x → ∃ v, fv.lookup f = some v ∧ Rep K F v x
def Post (K : PySem.W.Frag) (F0 H0 F : Hp) (E : Ends) (W : WX) : Out → Prop
  | .nx ρ => ∀ σ F' H', Ex F F' → RelS K F0 H0 F' H' σ ρ → E.nx σ H'
  | .rt d => ∀ v F' H', Ex F F' → Gr F0 H0 F' H' → Rep K F' v d → E.rt v H'
  | .bk ρ => ∀ σ F' H', Ex F F' → RelS K F0 H0 F' H' σ ρ → E.bk σ H'
  | .ct ρ => ∀ σ F' H', Ex F F' → RelS K F0 H0 F' H' σ ρ → E.ct σ H'
  | .er C fs ρ => ∀ od σ F' H', Ex F F' → RelS K F0 H0 F' H' σ ρ → XR K F' H' od fs → W (.ref C) od σ H'
theorem Post.up {K : PySem.W.Frag} {F0 H0 F F1 : Hp} {E : Ends} {W : WX} {o : Out} (e : Ex F F1) (p : Post K F0 H0 F E W o) : Post K F0 H0 F1 E W o := by
  cases o with
  | nx ρ => exact fun σ F' H' x r => p σ F' H' (e.trans x) r
  | rt d => exact fun v F' H' x g r => p v F' H' (e.trans x) g r
  | bk ρ => exact fun σ F' H' x r => p σ F' H' (e.trans x) r
  | ct ρ => exact fun σ F' H' x r => p σ F' H' (e.trans x) r
  | er C fs ρ => exact fun od σ F' H' x g r => p od σ F' H' (e.trans x) g r
def SvD (K : PySem.W.Frag) (W : WX) (ts : TS) (ρ : List Sl) (o : Out) : Prop :=
  ∀ (E : Ends) (F0 H0 F H : Hp) (σ : St), RelS K F0 H0 F H σ ρ → Post K F0 H0 F E W o → ts E σ H
def Out.stops : Out → Bool
  | .nx _ => false
  | _ => true
section
variable {K : PySem.W.Frag} {W : WX} {ρ ρ' : List Sl} {te ta tb : TE} {d x y z : D} {xs ys ds zs : List D} {tt tu : TT} {t u : TS} {o : Out} {i : Nat}
theorem sv_next : SvD K W tNext ρ (.nx ρ) := fun E F0 H0 F H σ R p => p σ F H (Ex.refl F) R
theorem sv_seq (h1 : SvD K W t ρ (.nx ρ')) (h2 : SvD K W u ρ' o) : SvD K W (tSeq t u) ρ o := fun E F0 H0 F H σ R p =>
  h1 _ F0 H0 F H σ R fun σ' F' H' e R' => h2 E F0 H0 F' H' σ' R' (p.up e)
theorem sv_stop (h1 : SvD K W t ρ o) (hs : o.stops = true := by rfl) : SvD K W (tSeq t u) ρ o := fun E F0 H0 F H σ R p =>
  h1 _ F0 H0 F H σ R (by cases o with
    | nx ρ => cases hs
    | rt d => exact p
    | bk ρ => exact p
    | ct ρ => exact p
    | er C fs ρ => exact p)
theorem sv_asg (h : EvD K te ρ d) : SvD K W (tAsg te (gName i)) ρ (.nx (ρ.set i (.d d))) := fun E F0 H0 F H σ R p =>
  h F0 H0 F H σ R _ fun v F1 H1 g1 r1 => p _ F1 H1 g1.f ((R.grow g1).set i r1)
theorem sv_asgL (h : EvL K te ρ xs) : SvD K W (tAsg te (gName i)) ρ (.nx (ρ.set i (.ol xs))) := fun E F0 H0 F H σ R p =>
  h F0 H0 F H σ R _ fun a vs F1 H1 g1 hp hf h1 r1 => p _ F1 H1 g1.f ((R.grow g1).setOwn i rfl ⟨R.gr.h.back hp, hf, vs, h1, r1⟩ fun j y h2 h3 _ h4 => R.fresh hp j y h2 h3 h4)
theorem sv_asgDK : SvD K W (tAsg tDNewK (gName i)) ρ (.nx (ρ.set i (.ok []))) := fun E F0 H0 F H σ R p => fun a ha =>
  p _ F _ (Ex.refl F) ((R.grow (.own R.ex ha)).setOwn i rfl ⟨R.gr.h.back ha, R.ex.back ha, [], upd_same, .nil, .nil⟩ fun j y h2 h3 _ h4 => R.fresh ha j y h2 h3 h4)
theorem sv_asgDT : SvD K W (tAsg tDNewT (gName i)) ρ (.nx (ρ.set i (.ot []))) := fun E F0 H0 F H σ R p => fun a ha =>
  p _ F _ (Ex.refl F) ((R.grow (.own R.ex ha)).setOwn i rfl ⟨R.gr.h.back ha, R.ex.back ha, [], upd_same, .nil, .nil⟩ fun j y h2 h3 _ h4 => R.fresh ha j y h2 h3 h4)
theorem sv_if {b : Bool} (h : TvD K tt ρ b) (h1 : b = true → SvD K W t ρ o) (h2 : b = false → SvD K W u ρ o) : SvD K W (tIfS tt t u) ρ o := fun E F0 H0 F H σ R p =>
  h F0 H0 F H σ R _ fun F1 H1 g1 => by
    cases b with
    | true =>
      show t E σ H1
      exact h1 rfl E F0 H0 F1 H1 σ (R.grow g1) (p.up g1.f)
    | false =>
      show u E σ H1
      exact h2 rfl E F0 H0 F1 H1 σ (R.grow g1) (p.up g1.f)
theorem sv_ifT (h : TvD K tt ρ true) (h1 : SvD K W t ρ o) : SvD K W (tIfS tt t u) ρ o := sv_if h (fun _ => h1) (fun e => nomatch e)
theorem sv_ifF (h : TvD K tt ρ false) (h2 : SvD K W u ρ o) : SvD K W (tIfS tt t u) ρ o := sv_if h (fun e => nomatch e) (fun _ => h2)
theorem sv_ret (h : EvD K te ρ d) : SvD K W (tRet te) ρ (.rt d) := fun E F0 H0 F H σ R p =>
  h F0 H0 F H σ R _ fun v F1 H1 g1 r1 => p v F1 H1 g1.f (R.gr.trans g1) r1
theorem sv_retE (h : EvD K te ρ d) (e : d = x) : SvD K W (tRet te) ρ (.rt x) := e ▸ sv_ret h
theorem sv_retN : SvD K W tRetN ρ (.rt .non) := fun E F0 H0 F H σ R p => p .non F H (Ex.refl F) R.gr .non
theorem sv_drop (h : EvD K te ρ d) : SvD K W (tDrop te) ρ (.nx ρ) := fun E F0 H0 F H σ R p =>
  h F0 H0 F H σ R _ fun v F1 H1 g1 r1 => p σ F1 H1 g1.f (R.grow g1)
theorem sv_brk : SvD K W tBreak ρ (.bk ρ) := fun E F0 H0 F H σ R p => p σ F H (Ex.refl F) R
theorem sv_cont : SvD K W tCont ρ (.ct ρ) := fun E F0 H0 F H σ R p => p σ F H (Ex.refl F) R
theorem sv_to {o' : Out} (h : SvD K W t ρ o) (e : o = o') : SvD K W t ρ o' := e ▸ h
theorem sv_from {ρ1 : List Sl} (h : SvD K W t ρ1 o) (e : ρ = ρ1) : SvD K W t ρ o := e ▸ h
/-- the own object of slot i is frozen -/
theorem sv_frz {s : Sl} (i : Nat) (hx : ρ[i]? = some s) (ox : s.own = true) (h : SvD K W t (ρ.set i (.d s.frz)) o) : SvD K W t ρ o := fun E F0 H0 F H σ R p => by
  obtain ⟨F1, e, R1⟩ := R.freeze hx ox
  exact h E F0 H0 F1 H σ R1 (p.up e)
/-- slots forgotten -/
theorem set_same {α : Type} : ∀ {l : List α} {i : Nat} {a : α}, l[i]? = some a → l.set i a = l
  | [], i, a, h => by simp at h
  | b :: l, 0, a, h => by
    simp at h; subst h; rfl
  | b :: l, i + 1, a, h => by
    rw [List.set_cons_succ, set_same (l := l) (by simpa using h)]
theorem sv_forget (i : Nat) (h : SvD K W t (ρ.set i .no) o) : SvD K W t ρ o := fun E F0 H0 F H σ R p => by
  cases e : σ[i]? with
  | none =>
    have hl : ρ.length ≤ i := by rw [← R.len]; exact List.getElem?_eq_none_iff.mp e
    have q : ρ.set i .no = ρ := List.set_eq_of_length_le hl
    rw [q] at h
    exact h E F0 H0 F H σ R p
  | some v =>
    have R1 := R.forget i v
    rw [set_same e] at R1
    exact h E F0 H0 F H σ R1 p
/-! ### own lists and dicts change -/
theorem sv_app (hx : ρ[i]? = some (.ol xs)) (h : EvD K te ρ d) (hl : xs.length < 16777216) : SvD K W (tDrop (tBM K "list" rAppend (tVar i) (tCons te tNil))) ρ (.nx (ρ.set i (.ol (xs ++ [d])))) := fun E F0 H0 F H σ R p => by
  obtain ⟨a, h1, n0, nf, vs, h2, rs⟩ := R.getOwn hx rfl
  refine ⟨_, h1, Or.inl ⟨rfl, _, Or.inl (Or.inl h2)⟩, ?_⟩
  refine h F0 H0 F H σ R _ fun v F1 H1 g1 r1 => ?_
  refine ⟨a, vs, v, rfl, rfl, g1.h _ _ h2, ?_, ?_⟩
  · rw [rs.length]; exact sz_of hl
  · refine p _ F1 _ g1.f ((R.grow g1).mut hx rfl h1 (y := .ol (xs ++ [d])) rfl ⟨n0, g1.n a _ h2 rfl nf, _, upd_same, (rs.mono g1.f).append (.cons r1 .nil)⟩)
/-! ### dicts -/
def kD : Key → D
  | .inl i => .int i
  | .inr s => .str s
def EvDK (K : PySem.W.Frag) (te : TE) (ρ : List Sl) (kvs : List (Key × D)) : Prop := ∀ (F0 H0 F H : Hp) (σ : St), RelS K F0 H0 F H σ ρ → ∀ Q : VK, (∀ a ws F' H', Gr F H F' H' → Rd H' a (.dK ws) → KR K F' ws kvs → Q (.ref a) H') → te σ H Q
def EvDT (K : PySem.W.Frag) (te : TE) (ρ : List Sl) (kvs : List (List Key × D)) : Prop := ∀ (F0 H0 F H : Hp) (σ : St), RelS K F0 H0 F H σ ρ → ∀ Q : VK, (∀ a ws F' H', Gr F H F' H' → Rd H' a (.dT ws) → KR K F' ws kvs → Q (.ref a) H') → te σ H Q
theorem rd_str {F H : Hp} {a : Addr} {o : HO} (e : Ex F H) (h : F a = some o) : (∀ k, str1 o = .dK k → Rd H a (.dK k)) ∧ ∀ k, str1 o = .dT k → Rd H a (.dT k) := by
  have h' := e a o h
  refine ⟨fun k z => ?_, fun k z => ?_⟩
  · unfold str1 at z
    split at z
    · cases z; exact .inr ⟨_, h'⟩
    · cases z
    · subst z; exact .inl h'
  · unfold str1 at z
    split at z
    · cases z
    · cases z; exact .inr ⟨_, h'⟩
    · subst z; exact .inl h'
theorem dk_d {ks : List Key} (h : EvD K te ρ (.dk ks ds)) : EvDK K te ρ (ks.zip ds) := fun F0 H0 F H σ R Q q => h F0 H0 F H σ R Q fun v F' H' g r => by
  cases r with
  | dk h hs l rs => exact q _ _ F' H' g ((rd_str g.s h).1 _ hs) (KR.of l rs)
theorem dt_d {ks : List (List Key)} (h : EvD K te ρ (.dt ks ds)) : EvDT K te ρ (ks.zip ds) := fun F0 H0 F H σ R Q q => h F0 H0 F H σ R Q fun v F' H' g r => by
  cases r with
  | dt h hs l rs => exact q _ _ F' H' g ((rd_str g.s h).2 _ hs) (KR.of l rs)
theorem dk_own {kvs : List (Key × D)} (h : ρ[i]? = some (.ok kvs)) : EvDK K (tVar i) ρ kvs := fun F0 H0 F H σ R Q q => by
  obtain ⟨p, h1, n0, nf, ws, h2, nd, rs⟩ := R.getOwn h rfl
  exact ⟨_, h1, q p ws F H (.refl R.ex) (.inl h2) rs⟩
theorem dt_own {kvs : List (List Key × D)} (h : ρ[i]? = some (.ot kvs)) : EvDT K (tVar i) ρ kvs := fun F0 H0 F H σ R Q q => by
  obtain ⟨p, h1, n0, nf, ws, h2, nd, rs⟩ := R.getOwn h rfl
  exact ⟨_, h1, q p ws F H (.refl R.ex) (.inl h2) rs⟩
theorem rep_kD {F : Hp} {v : V} {k : Key} (h : Rep K F v (kD k)) : v = kV k := by
  cases k with
  | inl i => cases h; rfl
  | inr s => cases h; rfl
theorem rep_key {F : Hp} (k : Key) : Rep K F (kV k) (kD k) := by
  cases k with
  | inl i => exact .int i
  | inr s => exact .str s
theorem reps_keys {F : Hp} : ∀ ks : List Key, Reps K F (ks.map kV) (ks.map kD)
  | [] => .nil
  | k :: ks => .cons (rep_key k) (reps_keys ks)
theorem reps_kD {F : Hp} : ∀ {vs : List V} {ks : List Key}, Reps K F vs (ks.map kD) → vs = ks.map kV
  | vs, [], h => by cases h; rfl
  | vs, k :: ks, h => by
    cases h with
    | cons h r => rw [rep_kD h, reps_kD r]; rfl
theorem rep_kT {F : Hp} {v : V} {ks : List Key} (h : Rep K F v (.tup (ks.map kD))) : ∃ b, v = .ref b ∧ F b = some (.tup (ks.map kV)) := by
  cases h with
  | tup h r => rw [reps_kD r] at h; exact ⟨_, rfl, h⟩
theorem rd_ex {H H' : Hp} (e : Ex H H') {a : Addr} {u : HO} (h : Rd H a u) : Rd H' a u := e.rd h
theorem ev_dgetK {k : Key} {kvs : List (Key × D)} (ha : EvDK K ta ρ kvs) (hb : EvD K tb ρ (kD k)) (h : gget kvs k = some d) : EvD K (tDGet ta tb) ρ d := fun F0 H0 F H σ R Q q =>
  ha F0 H0 F H σ R _ fun a ws F1 H1 g1 s1 r1 => hb F0 H0 F1 H1 σ (R.grow g1) _ fun u F2 H2 g2 r2 => by
    rcases (r1.mono g2.f).get (k := k) with ⟨_, z⟩ | ⟨v, d', z1, z2, z3⟩
    · rw [h] at z; cases z
    · rw [h] at z2; cases z2
      refine ⟨a, v, rfl, .inl ⟨ws, k, g2.h.rd s1, rep_kD r2, ?_⟩, q v F2 H2 (g1.trans g2) z3⟩
      rw [valV_eq]; exact z1.symm
theorem ev_dgetT {k : List Key} {kvs : List (List Key × D)} (ha : EvDT K ta ρ kvs) (hb : EvD K tb ρ (.tup (k.map kD))) (h : gget kvs k = some d) : EvD K (tDGet ta tb) ρ d := fun F0 H0 F H σ R Q q =>
  ha F0 H0 F H σ R _ fun a ws F1 H1 g1 s1 r1 => hb F0 H0 F1 H1 σ (R.grow g1) _ fun u F2 H2 g2 r2 => by
    rcases (r1.mono g2.f).get (k := k) with ⟨_, z⟩ | ⟨v, d', z1, z2, z3⟩
    · rw [h] at z; cases z
    · rw [h] at z2; cases z2
      obtain ⟨b, rfl, hb2⟩ := rep_kT r2
      refine ⟨a, v, rfl, .inr ⟨ws, k, b, g2.h.rd s1, rfl, g2.s _ _ hb2, ?_⟩, q v F2 H2 (g1.trans g2) z3⟩
      rw [valV_eq]; exact z1.symm
theorem isD_k {H : Hp} {a : Addr} {ws : List (Key × V)} (h : Rd H a (.dK ws)) : IsD H a := .inl ⟨ws, h⟩
theorem isD_t {H : Hp} {a : Addr} {ws : List (List Key × V)} (h : Rd H a (.dT ws)) : IsD H a := .inr ⟨ws, h⟩
theorem ev_get2K {k : Key} {kvs : List (Key × D)} {tc : TE} (ha : EvDK K ta ρ kvs) (hb : EvD K tb ρ (kD k)) (hc : EvD K tc ρ x) : EvD K (tDGet2 ta tb tc) ρ ((gget kvs k).getD x) := fun F0 H0 F H σ R Q q =>
  ha F0 H0 F H σ R _ fun a ws F1 H1 g1 s1 r1 => ⟨a, rfl, isD_k s1, hb F0 H0 F1 H1 σ (R.grow g1) _ fun u F2 H2 g2 r2 => hc F0 H0 F2 H2 σ (R.grow (g1.trans g2)) _ fun w F3 H3 g3 r3 => by
    refine ⟨valV ws k, .inl ⟨ws, k, (g2.trans g3).h.rd s1, rep_kD r2, rfl⟩, ?_⟩
    rcases (r1.mono (g2.trans g3).f).get (k := k) with ⟨z1, z2⟩ | ⟨v, d', z1, z2, z3⟩
    · rw [valV_eq, z1]; rw [z2] at q; exact q w F3 H3 ((g1.trans g2).trans g3) r3
    · rw [valV_eq, z1]; rw [z2] at q; exact q v F3 H3 ((g1.trans g2).trans g3) z3⟩
theorem ev_get2T {k : List Key} {kvs : List (List Key × D)} {tc : TE} (ha : EvDT K ta ρ kvs) (hb : EvD K tb ρ (.tup (k.map kD))) (hc : EvD K tc ρ x) : EvD K (tDGet2 ta tb tc) ρ ((gget kvs k).getD x) := fun F0 H0 F H σ R Q q =>
  ha F0 H0 F H σ R _ fun a ws F1 H1 g1 s1 r1 => ⟨a, rfl, isD_t s1, hb F0 H0 F1 H1 σ (R.grow g1) _ fun u F2 H2 g2 r2 => hc F0 H0 F2 H2 σ (R.grow (g1.trans g2)) _ fun w F3 H3 g3 r3 => by
    obtain ⟨b, rfl, hb2⟩ := rep_kT r2
    refine ⟨valV ws k, .inr ⟨ws, k, b, (g2.trans g3).h.rd s1, rfl, g3.h _ _ (g2.s _ _ hb2), rfl⟩, ?_⟩
    rcases (r1.mono (g2.trans g3).f).get (k := k) with ⟨z1, z2⟩ | ⟨v, d', z1, z2, z3⟩
    · rw [valV_eq, z1]; rw [z2] at q; exact q w F3 H3 ((g1.trans g2).trans g3) r3
    · rw [valV_eq, z1]; rw [z2] at q; exact q v F3 H3 ((g1.trans g2).trans g3) z3⟩
theorem sv_putK {k : Key} {kvs : List (Key × D)} (hx : ρ[i]? = some (.ok kvs)) (hv : EvD K ta ρ d) (hk : EvD K tb ρ (kD k)) (hl : kvs.length < 16777216) :
    SvD K W (sDPut (tVar i) tb ta) ρ (.nx (ρ.set i (.ok (gput kvs k d)))) := fun E F0 H0 F H σ R p => by
  refine hv F0 H0 F H σ R _ fun v F1 H1 g1 r1 => ?_
  obtain ⟨a, h1, n0, nf, ws, h2, nd, rs⟩ := (R.grow g1).getOwn hx rfl
  refine ⟨_, h1, hk F0 H0 F1 H1 σ (R.grow g1) _ fun u F2 H2 g2 r2 => ?_⟩
  refine ⟨a, _, rfl, .inl ⟨ws, k, g2.h _ _ h2, rep_kD r2, by rw [rs.length]; exact sz_of hl, rfl⟩, ?_⟩
  have R2 := (R.grow (g1.trans g2))
  refine p _ F2 _ (g1.trans g2).f (R2.mut hx rfl h1 (y := .ok (gput kvs k d)) rfl ⟨n0, g2.n a _ h2 rfl nf, gput ws k v, ?_, (gput_keys k d kvs nd).1, KR.put (r1.mono g2.f) (rs.mono g2.f)⟩)
  rw [upd_same, putK_eq k v ws (by rw [rs.keys]; exact nd)]
theorem sv_putT {k : List Key} {kvs : List (List Key × D)} (hx : ρ[i]? = some (.ot kvs)) (hv : EvD K ta ρ d) (hk : EvD K tb ρ (.tup (k.map kD))) (hl : kvs.length < 16777216) :
    SvD K W (sDPut (tVar i) tb ta) ρ (.nx (ρ.set i (.ot (gput kvs k d)))) := fun E F0 H0 F H σ R p => by
  refine hv F0 H0 F H σ R _ fun v F1 H1 g1 r1 => ?_
  obtain ⟨a, h1, n0, nf, ws, h2, nd, rs⟩ := (R.grow g1).getOwn hx rfl
  refine ⟨_, h1, hk F0 H0 F1 H1 σ (R.grow g1) _ fun u F2 H2 g2 r2 => ?_⟩
  obtain ⟨b, rfl, hb2⟩ := rep_kT r2
  refine ⟨a, _, rfl, .inr ⟨ws, k, b, g2.h _ _ h2, rfl, g2.s _ _ hb2, by rw [rs.length]; exact sz_of hl, rfl⟩, ?_⟩
  have R2 := (R.grow (g1.trans g2))
  refine p _ F2 _ (g1.trans g2).f (R2.mut hx rfl h1 (y := .ot (gput kvs k d)) rfl ⟨n0, g2.n a _ h2 rfl nf, gput ws k v, ?_, (gput_keys k d kvs nd).1, KR.put (r1.mono g2.f) (rs.mono g2.f)⟩)
  rw [upd_same, putK_eq k v ws (by rw [rs.keys]; exact nd)]
/-! ### targets -/
/-- a target takes the datum d: the slots behind; only the slots is change -/
def TgD (K : PySem.W.Frag) (g : TG) (is : List Nat) (d : D) (ρ ρ' : List Sl) : Prop := (∀ (j : Nat) (y : Sl), ρ'[j]? = some y → y.own = true → j ∉ is ∧ ρ[j]? = some y) ∧ ∀ (F0 H0 F H : Hp) (σ : St) (v : V), RelS K F0 H0 F H σ ρ → Rep K F v d → ∀ Q : St → Hp → Prop,
  (∀ σ', RelS K F0 H0 F H σ' ρ' → σ'.length = σ.length → (∀ j, j ∉ is → σ'[j]? = σ[j]?) → Q σ' H) → g v σ H Q
def TgsD (K : PySem.W.Frag) (g : TGs) (is : List Nat) (ds : List D) (ρ ρ' : List Sl) : Prop := (∀ (j : Nat) (y : Sl), ρ'[j]? = some y → y.own = true → j ∉ is ∧ ρ[j]? = some y) ∧ ∀ (F0 H0 F H : Hp) (σ : St) (vs : List V), RelS K F0 H0 F H σ ρ → Reps K F vs ds → ∀ Q : St → Hp → Prop,
  (∀ σ', RelS K F0 H0 F H σ' ρ' → σ'.length = σ.length → (∀ j, j ∉ is → σ'[j]? = σ[j]?) → Q σ' H) → g vs σ H Q
theorem tg_name : TgD K (gName i) [i] d ρ (ρ.set i (.d d)) := ⟨fun j y h o => by
    rcases get_set h with ⟨e, rfl⟩ | ⟨e, h⟩
    · cases o
    · exact ⟨by simpa using fun z => e z.symm, h⟩, fun F0 H0 F H σ v R r Q q => q _ (R.set i r) (List.length_set ..) fun j hj => by
    rw [List.getElem?_set_ne (by simpa using (fun z => hj (by simp [z])))]⟩
theorem tgs_nil : TgsD K gNil [] [] ρ ρ := ⟨fun j y h o => ⟨by simp, h⟩, fun F0 H0 F H σ vs R r Q q => by
  cases r
  exact ⟨rfl, q σ R rfl fun _ _ => rfl⟩⟩
theorem tgs_cons {g : TG} {gs : TGs} {is js : List Nat} {ρ1 : List Sl} (h1 : TgD K g is d ρ ρ1) (h2 : TgsD K gs js ds ρ1 ρ') : TgsD K (gCons g gs) (is ++ js) (d :: ds) ρ ρ' := ⟨fun j y h o => by
    obtain ⟨n2, e2⟩ := h2.1 j y h o
    obtain ⟨n1, e1⟩ := h1.1 j y e2 o
    exact ⟨by rw [List.mem_append]; rintro (z | z); exact n1 z; exact n2 z, e1⟩, fun F0 H0 F H σ vs R r Q q => by
  cases r with
  | cons hv rv =>
    refine ⟨_, _, rfl, h1.2 F0 H0 F H σ _ R hv _ fun σ1 R1 l1 k1 => h2.2 F0 H0 F H σ1 _ R1 rv _ fun σ2 R2 l2 k2 => q σ2 R2 (l2.trans l1) fun j hj => ?_⟩
    rw [List.mem_append] at hj
    exact (k2 j fun z => hj (.inr z)).trans (k1 j fun z => hj (.inl z))⟩
theorem tg_tup {gs : TGs} {is : List Nat} {n : Nat} (h : TgsD K gs is ds ρ ρ') (hn : ds.length = n) : TgD K (gTup K n gs) is (.tup ds) ρ ρ' := ⟨h.1, fun F0 H0 F H σ v R r Q q => by
  cases r with
  | tup h1 rs => exact ⟨_, _, rfl, SqT.of (R.ex _ _ h1), by rw [rs.length]; exact hn, h.2 F0 H0 F H σ _ R rs Q q⟩⟩
theorem sv_asgT {g : TG} {is : List Nat} (h : EvD K te ρ d) (hg : TgD K g is d ρ ρ') : SvD K W (tAsg te g) ρ (.nx ρ') := fun E F0 H0 F H σ R p =>
  h F0 H0 F H σ R _ fun v F1 H1 g1 r1 => hg.2 F0 H0 F1 H1 σ v (R.grow g1) r1 _ fun σ' R' _ _ => p σ' F1 H1 g1.f R'
/-! ### loops -/
/-- the turns of a for, one item after the other -/
inductive Run (step : D → List Sl → Out → Prop) : List D → List Sl → Out → Prop
  | nil {ρ : List Sl} : Run step [] ρ (.nx ρ)
  | go {d : D} {ds : List D} {ρ ρ' : List Sl} {o : Out} (h : step d ρ (.nx ρ')) (r : Run step ds ρ' o) : Run step (d :: ds) ρ o
  | ct {d : D} {ds : List D} {ρ ρ' : List Sl} {o : Out} (h : step d ρ (.ct ρ')) (r : Run step ds ρ' o) : Run step (d :: ds) ρ o
  | bk {d : D} {ds : List D} {ρ ρ' : List Sl} (h : step d ρ (.bk ρ')) : Run step (d :: ds) ρ (.nx ρ')
  | rt {d x : D} {ds : List D} {ρ : List Sl} (h : step d ρ (.rt x)) : Run step (d :: ds) ρ (.rt x)
  | er {d : D} {ds : List D} {ρ ρ' : List Sl} {C : Addr} {fs : List (Str × D)} (h : step d ρ (.er C fs ρ')) : Run step (d :: ds) ρ (.er C fs ρ')
/-- one turn: the target, the body -/
def Turn1 (K : PySem.W.Frag) (W : WX) (g : TG) (tb : TS) : D → List Sl → Out → Prop := fun d ρ o => ∃ is ρ1, TgD K g is d ρ ρ1 ∧ SvD K W tb ρ1 o
theorem t1_name {tb : TS} (h : SvD K W tb (ρ.set i (.d d)) o) : Turn1 K W (gName i) tb d ρ o := ⟨_, _, tg_name, h⟩
end
end DL
set_option Elab.async false
set_option linter.all false
set_option maxRecDepth 100000
set_option maxHeartbeats 1000000
/-! What readings come to, over plain data: loops, comprehensions. -/
namespace DL
open PySem L2
/-- an iterator that yields the data ds, while A holds of the frozen part -/
structure Src (K : PySem.W.Frag) (J : It) (ds : List D) (A : Hp → Prop) : Prop where
  keep : ∀ F F', A F → Ex F F' → A F'
  go : ∀ i F H, i < ds.length → A F → Ex F H → J.go i H
  stop : ∀ F H, A F → Ex F H → J.stop ds.length H
  yld : ∀ i F H x H' d, ds[i]? = some d → A F → Ex F H → J.yld i H x H' → ∃ F', Gr F H F' H' ∧ Rep K F' x d
def WiD (K : PySem.W.Frag) (wi : TI) (ρ : List Sl) (ds : List D) : Prop := ∀ (F0 H0 F H : Hp) (σ : St), RelS K F0 H0 F H σ ρ → ∀ R : It → Hp → Prop, (∀ J A F' H', Gr F H F' H' → Src K J ds A → A F' → R J H') → wi σ H R
section
variable {K : PySem.W.Frag} {W : WX} {ρ ρ' : List Sl} {te ta tb : TE} {d x y z : D} {xs ys ds zs : List D} {tt tu : TT} {t u : TS} {o : Out} {i : Nat}
theorem src_list {a : Addr} {vs : List V} : Src K (Itl K a) ds (fun F => F a = some (.lst vs) ∧ Reps K F vs ds) where
  keep := fun F F' h e => ⟨e _ _ h.1, h.2.mono e⟩
  go := fun i F H hi h e => walk_list.goes i H (by rw [h.2.length]; exact hi) (SqL.of (e _ _ h.1))
  stop := fun F H h e => by rw [← h.2.length]; exact walk_list.stops H (SqL.of (e _ _ h.1))
  yld := fun i F H x H' d hd h e y => by
    have hi : i < vs.length := by rw [h.2.length]; exact (List.getElem?_eq_some_iff.mp hd).1
    obtain ⟨rfl, hx⟩ := walk_list.yields i H x H' hi (SqL.of (e _ _ h.1)) y
    obtain ⟨d', h1, h2⟩ := h.2.get hx
    rw [hd] at h1; cases h1
    exact ⟨F, .refl e, h2⟩
theorem src_scr {a : Addr} {ns : List Int} : Src K (Itl K a) (ns.map D.int) (fun F => SqL K F a (ns.map V.int)) where
  keep := fun F F' h e => e.sl h
  go := fun i F H hi h e => walk_list.goes i H (by simpa using hi) (e.sl h)
  stop := fun F H h e => by
    have := walk_list.stops H (e.sl h)
    simpa using this
  yld := fun i F H x H' d hd h e y => by
    have hi : i < (ns.map V.int).length := by simpa using (List.getElem?_eq_some_iff.mp hd).1
    obtain ⟨rfl, hx⟩ := walk_list.yields i H x H' hi (e.sl h) y
    rw [List.getElem?_map] at hx hd
    cases e1 : ns[i]? with
    | none => rw [e1] at hx; cases hx
    | some n =>
      rw [e1] at hx hd
      cases hx; cases hd
      exact ⟨F, .refl e, .int n⟩
theorem src_tup {a : Addr} {vs : List V} : Src K (Itt K a) ds (fun F => F a = some (.tup vs) ∧ Reps K F vs ds) where
  keep := fun F F' h e => ⟨e _ _ h.1, h.2.mono e⟩
  go := fun i F H hi h e => walk_tup.goes i H (by rw [h.2.length]; exact hi) (SqT.of (e _ _ h.1))
  stop := fun F H h e => by rw [← h.2.length]; exact walk_tup.stops H (SqT.of (e _ _ h.1))
  yld := fun i F H x H' d hd h e y => by
    have hi : i < vs.length := by rw [h.2.length]; exact (List.getElem?_eq_some_iff.mp hd).1
    obtain ⟨rfl, hx⟩ := walk_tup.yields i H x H' hi (SqT.of (e _ _ h.1)) y
    obtain ⟨d', h1, h2⟩ := h.2.get hx
    rw [hd] at h1; cases h1
    exact ⟨F, .refl e, h2⟩
/-- lo, lo + 1, .. -/
def rngD (lo : Int) (n : Nat) : List D := (List.range n).map fun (i : Nat) => D.int (lo + i)
theorem rngD_length (lo : Int) (n : Nat) : (rngD lo n).length = n := by simp [rngD]
theorem rngD_get {lo : Int} {n i : Nat} {d : D} (h : (rngD lo n)[i]? = some d) : d = .int (lo + i) := by
  unfold rngD at h
  rw [List.getElem?_map] at h
  cases e : (List.range n)[i]? with
  | none => rw [e] at h; cases h
  | some j =>
    rw [e] at h
    have := List.getElem?_eq_some_iff.mp e
    obtain ⟨h1, h2⟩ := this
    rw [List.getElem_range] at h2
    subst h2
    cases h; rfl
theorem src_range {lo : Int} {n : Nat} : Src K (Itr lo n) (rngD lo n) (fun _ => True) where
  keep := fun _ _ _ _ => trivial
  go := fun i F H hi _ _ => walk_range.goes i H (by rw [rngD_length] at hi; exact hi) trivial
  stop := fun F H _ _ => by rw [rngD_length]; exact walk_range.stops H trivial
  yld := fun i F H x H' d hd _ e y => by
    have hi : i < n := by have := (List.getElem?_eq_some_iff.mp hd).1; rw [rngD_length] at this; exact this
    obtain ⟨rfl, hx⟩ := walk_range.yields i H x H' hi trivial y
    subst hx
    rw [rngD_get hd]
    exact ⟨F, .refl e, .int _⟩
theorem src_rangeC {lo c : Int} {n : Nat} : Src K (Itc lo c n) ((List.range n).map fun (i : Nat) => D.int (lo + (i : Nat) * c)) (fun _ => True) where
  keep := fun _ _ _ _ => trivial
  go := fun i F H hi _ _ => walk_rangeC.goes i H (by simpa using hi) trivial
  stop := fun F H _ _ => by
    have := walk_rangeC (lo := lo) (c := c) (n := n).stops H trivial
    simpa using this
  yld := fun i F H x H' d hd _ e y => by
    have hi : i < n := by have := (List.getElem?_eq_some_iff.mp hd).1; simpa using this
    obtain ⟨rfl, hx⟩ := walk_rangeC.yields i H x H' hi trivial y
    subst hx
    rw [List.getElem?_map] at hd
    have e1 : (List.range n)[i]? = some i := by rw [List.getElem?_range hi]
    rw [e1] at hd
    cases hd
    exact ⟨F, .refl e, .int _⟩
theorem src_keys {a : Addr} {ob : Obj} {ws : List (Key × V)} : Src K (Itk a ob ws) (ws.map fun kv => kD kv.1) (fun F => F a = some (.frz ob (.dK ws))) where
  keep := fun F F' h e => e _ _ h
  go := fun i F H hi h e => walk_keys.goes i H (by simpa using hi) (e _ _ h)
  stop := fun F H h e => by
    have := walk_keys.stops H (e _ _ h)
    simpa using this
  yld := fun i F H x H' d hd h e y => by
    have hi : i < ws.length := by have := (List.getElem?_eq_some_iff.mp hd).1; simpa using this
    obtain ⟨rfl, k, v, h1, rfl⟩ := walk_keys.yields i H x H' hi (e _ _ h) y
    rw [List.getElem?_map, h1] at hd
    cases hd
    exact ⟨F, .refl e, rep_key k⟩
theorem src_keysT {a : Addr} {ob : Obj} {ws : List (List Key × V)} : Src K (Itkt a ob ws) (ws.map fun kv => D.tup (kv.1.map kD)) (fun F => F a = some (.frz ob (.dT ws))) where
  keep := fun F F' h e => e _ _ h
  go := fun i F H hi h e => walk_keysT.goes i H (by simpa using hi) (e _ _ h)
  stop := fun F H h e => by
    have := walk_keysT.stops H (e _ _ h)
    simpa using this
  yld := fun i F H x H' d hd h e y => by
    have hi : i < ws.length := by have := (List.getElem?_eq_some_iff.mp hd).1; simpa using this
    obtain ⟨rfl, k, v, q, h1, rfl, h2⟩ := walk_keysT.yields i H x H' hi (e _ _ h) y
    rw [List.getElem?_map, h1] at hd
    cases hd
    obtain ⟨F', g, hq⟩ := Gr.tup e h2
    exact ⟨F', g, .tup hq (reps_keys k)⟩
theorem wi_list (h : EvD K te ρ (.lst ds)) : WiD K (iList K te) ρ ds := fun F0 H0 F H σ R Q q => h F0 H0 F H σ R _ fun v F1 H1 g1 r1 => by
  cases r1 with
  | lst h1 rs => exact ⟨_, rfl, ⟨_, SqL.of (g1.s _ _ h1)⟩, q _ _ F1 H1 g1 src_list ⟨h1, rs⟩⟩
theorem wi_scr {ns : List Int} (h : EvD K te ρ (.scr ns)) : WiD K (iList K te) ρ (ns.map D.int) := fun F0 H0 F H σ R Q q => h F0 H0 F H σ R _ fun v F1 H1 g1 r1 => by
  cases r1 with
  | scr h1 => exact ⟨_, rfl, ⟨_, g1.s.sl h1⟩, q _ _ F1 H1 g1 src_scr h1⟩
theorem wi_tup (h : EvD K te ρ (.tup ds)) : WiD K (iTup K te) ρ ds := fun F0 H0 F H σ R Q q => h F0 H0 F H σ R _ fun v F1 H1 g1 r1 => by
  cases r1 with
  | tup h1 rs => exact ⟨_, rfl, ⟨_, SqT.of (g1.s _ _ h1)⟩, q _ _ F1 H1 g1 src_tup ⟨h1, rs⟩⟩
theorem wi_rng1 {ta : TA} {j : Int} (h : AvD K ta ρ [.int j]) (h1 : -(2 ^ 62) ≤ j) (h2 : j < 2 ^ 62) : WiD K (iRng1 ta) ρ (rngD 0 j.toNat) := fun F0 H0 F H σ R Q q => h F0 H0 F H σ R _ fun vs F1 H1 g1 r1 => by
  cases r1 with
  | cons a r =>
    cases a; cases r
    exact ⟨j, rfl, h1, h2, q _ _ F1 H1 g1 src_range trivial⟩
theorem wi_rng2 {ta : TA} {i j : Int} (h : AvD K ta ρ [.int i, .int j]) (h1 : -(2 ^ 62) ≤ i ∧ i < 2 ^ 62) (h2 : -(2 ^ 62) ≤ j ∧ j < 2 ^ 62) : WiD K (iRng2 ta) ρ (rngD i (j - i).toNat) := fun F0 H0 F H σ R Q q => h F0 H0 F H σ R _ fun vs F1 H1 g1 r1 => by
  cases r1 with
  | cons a r =>
    cases a
    cases r with
    | cons b r =>
      cases b; cases r
      exact ⟨i, j, rfl, ⟨h1.1, h1.2, h2.1, h2.2⟩, q _ _ F1 H1 g1 src_range trivial⟩
theorem run_get {step : D → List Sl → Out → Prop} {ds : List D} {ρ : List Sl} {o : Out} (r : Run step ds ρ o) : (ds = [] ∧ o = .nx ρ) ∨ ∃ d r', ds = d :: r' ∧ ((∃ ρ', step d ρ (.nx ρ') ∧ Run step r' ρ' o) ∨ (∃ ρ', step d ρ (.ct ρ') ∧ Run step r' ρ' o) ∨ (∃ ρ', step d ρ (.bk ρ') ∧ o = .nx ρ') ∨ (∃ x, step d ρ (.rt x) ∧ o = .rt x) ∨ ∃ C fs ρ', step d ρ (.er C fs ρ') ∧ o = .er C fs ρ') := by
  cases r with
  | nil => exact .inl ⟨rfl, rfl⟩
  | go h r => exact .inr ⟨_, _, rfl, .inl ⟨_, h, r⟩⟩
  | ct h r => exact .inr ⟨_, _, rfl, .inr (.inl ⟨_, h, r⟩)⟩
  | bk h => exact .inr ⟨_, _, rfl, .inr (.inr (.inl ⟨_, h, rfl⟩))⟩
  | rt h => exact .inr ⟨_, _, rfl, .inr (.inr (.inr (.inl ⟨_, h, rfl⟩)))⟩
  | er h => exact .inr ⟨_, _, rfl, .inr (.inr (.inr (.inr ⟨_, _, _, h, rfl⟩)))⟩
theorem drop_get {α : Type} {l : List α} {i : Nat} {a : α} {r : List α} (h : l.drop i = a :: r) : l[i]? = some a ∧ l.drop (i + 1) = r ∧ i < l.length := by
  have h1 : (l.drop i)[0]? = some a := by rw [h]; rfl
  rw [List.getElem?_drop] at h1
  have h2 : l[i]? = some a := by simpa using h1
  refine ⟨h2, ?_, (List.getElem?_eq_some_iff.mp h2).1⟩
  rw [← List.drop_drop, h]; rfl
theorem for_at {wi : TI} {g : TG} {tb : TS} {E : Ends} {F0 H0 F H : Hp} {σ : St} (R : RelS K F0 H0 F H σ ρ) (hw : ∀ R' : It → Hp → Prop, (∀ J A F' H', Gr F H F' H' → Src K J ds A → A F' → R' J H') → wi σ H R') (hr : Run (Turn1 K W g tb) ds ρ o)
    (p : Post K F0 H0 F E W o) : tFor wi g tb E σ H :=
  hw _ fun J A F1 H1 g1 src a1 => by
    refine ⟨fun i m σ' H' => ∃ ρ' F', m = ds.length - i ∧ i ≤ ds.length ∧ RelS K F0 H0 F' H' σ' ρ' ∧ Run (Turn1 K W g tb) (ds.drop i) ρ' o ∧ Ex F1 F', ⟨ds.length, ρ, F1, rfl, Nat.zero_le _, R.grow g1, hr, Ex.refl F1⟩, ?_⟩
    rintro i m σ' H' ⟨ρ', F', rfl, hi, R', hr', ex⟩
    have a' := src.keep _ _ a1 ex
    have pF : Post K F0 H0 F' E W o := p.up (g1.f.trans ex)
    rcases run_get hr' with ⟨e, rfl⟩ | ⟨d, r, e, h⟩
    · have hi' : i = ds.length := by
        have := List.drop_eq_nil_iff.mp e
        omega
      subst hi'
      exact .inl ⟨src.stop _ _ a' R'.ex, pF σ' F' H' (Ex.refl F') R'⟩
    · obtain ⟨hd, hn, hlt⟩ := drop_get e
      refine .inr ⟨src.go i F' H' hlt a' R'.ex, ?_⟩
      rcases h with ⟨ρ2, h, r2⟩ | ⟨ρ2, h, r2⟩ | ⟨ρ2, h, rfl⟩ | ⟨x, h, rfl⟩ | ⟨C, fs, ρe, h, rfl⟩
      · refine ⟨fun σ2 H2 => ∃ F2, RelS K F0 H0 F2 H2 σ2 ρ2 ∧ Ex F1 F2, fun σ2 H2 ⟨F2, R2, e2⟩ => ⟨ds.length - (i + 1), by omega, ρ2, F2, rfl, hlt, R2, by rw [hn]; exact r2, e2⟩, fun x H2 y => ?_⟩
        obtain ⟨F2, g2, rx⟩ := src.yld i F' H' x H2 d hd a' R'.ex y
        obtain ⟨is, ρ3, tg, sb⟩ := h
        exact tg.2 F0 H0 F2 H2 σ' x (R'.grow g2) rx _ fun σ3 R3 _ _ => sb _ F0 H0 F2 H2 σ3 R3 fun σ4 F4 H4 e4 R4 => ⟨F4, R4, (ex.trans g2.f).trans e4⟩
      · refine ⟨fun σ2 H2 => ∃ F2, RelS K F0 H0 F2 H2 σ2 ρ2 ∧ Ex F1 F2, fun σ2 H2 ⟨F2, R2, e2⟩ => ⟨ds.length - (i + 1), by omega, ρ2, F2, rfl, hlt, R2, by rw [hn]; exact r2, e2⟩, fun x H2 y => ?_⟩
        obtain ⟨F2, g2, rx⟩ := src.yld i F' H' x H2 d hd a' R'.ex y
        obtain ⟨is, ρ3, tg, sb⟩ := h
        exact tg.2 F0 H0 F2 H2 σ' x (R'.grow g2) rx _ fun σ3 R3 _ _ => sb _ F0 H0 F2 H2 σ3 R3 fun σ4 F4 H4 e4 R4 => ⟨F4, R4, (ex.trans g2.f).trans e4⟩
      · refine ⟨fun _ _ => False, fun _ _ z => z.elim, fun x H2 y => ?_⟩
        obtain ⟨F2, g2, rx⟩ := src.yld i F' H' x H2 d hd a' R'.ex y
        obtain ⟨is, ρ3, tg, sb⟩ := h
        exact tg.2 F0 H0 F2 H2 σ' x (R'.grow g2) rx _ fun σ3 R3 _ _ => sb _ F0 H0 F2 H2 σ3 R3 fun σ4 F4 H4 e4 R4 => pF σ4 F4 H4 (g2.f.trans e4) R4
      · refine ⟨fun _ _ => False, fun _ _ z => z.elim, fun x H2 y => ?_⟩
        obtain ⟨F2, g2, rx⟩ := src.yld i F' H' x H2 d hd a' R'.ex y
        obtain ⟨is, ρ3, tg, sb⟩ := h
        exact tg.2 F0 H0 F2 H2 σ' x (R'.grow g2) rx _ fun σ3 R3 _ _ => sb _ F0 H0 F2 H2 σ3 R3 fun v F4 H4 e4 g4 r4 => pF v F4 H4 (g2.f.trans e4) g4 r4
      · refine ⟨fun _ _ => False, fun _ _ z => z.elim, fun x H2 y => ?_⟩
        obtain ⟨F2, g2, rx⟩ := src.yld i F' H' x H2 d hd a' R'.ex y
        obtain ⟨is, ρ3, tg, sb⟩ := h
        exact tg.2 F0 H0 F2 H2 σ' x (R'.grow g2) rx _ fun σ3 R3 _ _ => sb _ F0 H0 F2 H2 σ3 R3 fun od σ4 F4 H4 e4 g4 r4 => pF od σ4 F4 H4 (g2.f.trans e4) g4 r4
theorem sv_for {wi : TI} {g : TG} {tb : TS} (hw : WiD K wi ρ ds) (hr : Run (Turn1 K W g tb) ds ρ o) : SvD K W (tFor wi g tb) ρ o := fun E F0 H0 F H σ R p => for_at R (hw F0 H0 F H σ R) hr p
/-! ### comprehensions -/
def wipeS (ρ : List Sl) : List Nat → List Sl
  | [] => ρ
  | v :: vs => (wipeS ρ vs).set v .no
theorem RelS.wipe {F0 H0 F H : Hp} {σ : St} (R : RelS K F0 H0 F H σ ρ) : ∀ vs : List Nat, RelS K F0 H0 F H (wipe σ vs) (wipeS ρ vs)
  | [] => R
  | v :: vs => (R.wipe vs).forget v none
theorem wipe_get (σ : St) (j : Nat) : ∀ vs : List Nat, (wipe σ vs)[j]? = if j ∈ vs then (σ[j]?).map (fun _ => none) else σ[j]?
  | [] => by simp [L2.wipe]
  | v :: vs => by
    unfold L2.wipe
    by_cases e : v = j
    · subst e
      by_cases h : v < (L2.wipe σ vs).length
      · have h' := h
        rw [wipe_length] at h'
        rw [List.getElem?_set_self h, if_pos List.mem_cons_self, List.getElem?_eq_getElem h']; rfl
      · have h' := h
        rw [wipe_length] at h'
        rw [List.getElem?_eq_none (by rw [List.length_set]; omega), if_pos List.mem_cons_self, List.getElem?_eq_none (by omega)]; rfl
    · rw [List.getElem?_set_ne e, wipe_get σ j vs]
      by_cases m : j ∈ vs
      · rw [if_pos m, if_pos (List.mem_cons_of_mem _ m)]
      · rw [if_neg m, if_neg (by rintro (_ | ⟨_, z⟩); exact e rfl; exact m (by assumption))]
theorem wipe_same {σ σ' : St} {vs is : List Nat} (hl : σ'.length = σ.length) (h : ∀ j, j ∉ is → σ'[j]? = σ[j]?) (hs : ∀ j ∈ is, j ∈ vs) : L2.wipe σ' vs = L2.wipe σ vs := by
  apply List.ext_getElem?
  intro j
  rw [wipe_get, wipe_get]
  by_cases m : j ∈ vs
  · rw [if_pos m, if_pos m]
    by_cases hj : j < σ.length
    · rw [List.getElem?_eq_getElem hj, List.getElem?_eq_getElem (by omega)]; rfl
    · rw [List.getElem?_eq_none (by omega), List.getElem?_eq_none (by omega)]
  · rw [if_neg m, if_neg m]
    exact h j fun z => m (hs j z)
theorem wipe_wipe {σ : St} {vs : List Nat} : L2.wipe (L2.wipe σ vs) vs = L2.wipe σ vs := by
  apply List.ext_getElem?
  intro j
  rw [wipe_get, wipe_get]
  by_cases m : j ∈ vs
  · rw [if_pos m, if_pos m]
    cases σ[j]? <;> rfl
  · rw [if_neg m, if_neg m]
/-- an object that is nobody's (a comprehension's list) changes -/
theorem Gr.side {F H F' H' : Hp} (g : Gr F H F' H') {p : Addr} {o : HO} (h : H p = none) (hf : F' p = none) : Gr F H F' (upd H' p o) :=
  ⟨g.f, g.h.mut h, g.s.mut hf, g.n⟩
theorem RelS.side {F0 H0 F H : Hp} {σ : St} (R : RelS K F0 H0 F H σ ρ) {p : Addr} {o : HO} (h0 : H0 p = none) (hf : F p = none) (hp : ∀ (j : Nat) (y : Sl), ρ[j]? = some y → y.own = true → σ[j]? ≠ some (some (.ref p))) : RelS K F0 H0 F (upd H p o) σ ρ := by
  refine ⟨R.gr.side h0 hf, R.len, fun j z u h1 h2 => ?_, R.ne⟩
  have q := R.sl j z u h1 h2
  by_cases oz : z.own = true
  · obtain ⟨b, rfl, hb⟩ := (SlR.own oz).mp q
    refine (SlR.own oz).mpr ⟨b, rfl, hb.other fun z' => ?_⟩
    subst z'
    exact hp j z h1 oz h2
  · cases z with
    | no => trivial
    | d z => exact q
    | ol _ => exact absurd rfl oz
    | ok _ => exact absurd rfl oz
    | ot _ => exact absurd rfl oz
/-- one turn of a comprehension: its target, its test, its element (or none) -/
def Cmp1 (K : PySem.W.Frag) (g : TG) (tt : TT) (te : TE) (vs : List Nat) (ρ : List Sl) (d : D) (r : Option D) : Prop :=
  ∃ is ρ1 b, TgD K g is d ρ ρ1 ∧ (∀ j ∈ is, j ∈ vs) ∧ TvD K tt ρ1 b ∧ (b = true → ∃ y, r = some y ∧ EvD K te ρ1 y) ∧ (b = false → r = none)
theorem filterMap_take {α β : Type} {f : α → Option β} {l : List α} {i : Nat} {a : α} (h : l[i]? = some a) : (l.take (i + 1)).filterMap f = (l.take i).filterMap f ++ (f a).toList := by
  rw [List.take_add_one, List.filterMap_append, h]
  cases e : f a <;> simp [e]
theorem lc_at {wi : TI} {g : TG} {tt : TT} {te : TE} {vs : List Nat} {f : D → Option D} {F0 H0 F H : Hp} {σ : St} (R : RelS K F0 H0 F H σ ρ) (hw : ∀ R' : It → Hp → Prop, (∀ J A F' H', Gr F H F' H' → Src K J ds A → A F' → R' J H') → wi σ H R')
    (hs : ∀ d ∈ ds, Cmp1 K g tt te vs (wipeS ρ vs) d (f d)) (hl : ds.length ≤ 16777215) {Q : VK} (q : ∀ p ws F' H', Gr F H F' H' → H p = none → F' p = none → H' p = some (.lst ws) → Reps K F' ws (ds.filterMap f) → Q (.ref p) H') : tLc wi g tt te vs σ H Q :=
  hw _ fun J A F1 H1 g1 src a1 => fun Dl hD => by
    have hD0 : H Dl = none := g1.h.back hD
    have hDF1 : F1 Dl = none := g1.s.back hD
    have hD00 : H0 Dl = none := R.gr.h.back hD0
    have Rw : RelS K F0 H0 F1 H1 (L2.wipe σ vs) (wipeS ρ vs) := (R.grow g1).wipe vs
    have fr := Rw.fresh hD
    refine ⟨fun i m H' => ∃ F' acc, m = ds.length - i ∧ i ≤ ds.length ∧ Gr F H F' H' ∧ RelS K F0 H0 F' H' (L2.wipe σ vs) (wipeS ρ vs) ∧ Ex F1 F' ∧ F' Dl = none ∧ H' Dl = some (.lst acc) ∧ Reps K F' acc ((ds.take i).filterMap f),
      ⟨ds.length, F1, [], rfl, Nat.zero_le _, g1.side hD0 hDF1, Rw.side hD00 hDF1 fr, Ex.refl F1, hDF1, upd_same, .nil⟩, ?_⟩
    rintro i m H' ⟨F', acc, rfl, hi, g', R', ex, hDF, hDH, ra⟩
    have a' := src.keep _ _ a1 ex
    by_cases hlt : i < ds.length
    · refine .inr ⟨src.go i F' H' hlt a' R'.ex, fun H2 => ∃ F2 acc, Gr F H F2 H2 ∧ RelS K F0 H0 F2 H2 (L2.wipe σ vs) (wipeS ρ vs) ∧ Ex F1 F2 ∧ F2 Dl = none ∧ H2 Dl = some (.lst acc) ∧ Reps K F2 acc ((ds.take (i + 1)).filterMap f),
        fun H2 ⟨F2, acc, x1, x2, x3, x4, x5, x6⟩ => ⟨ds.length - (i + 1), by omega, F2, acc, rfl, hlt, x1, x2, x3, x4, x5, x6⟩, fun x H2 y => ?_⟩
      obtain ⟨d, hd⟩ : ∃ d, ds[i]? = some d := ⟨ds[i], List.getElem?_eq_getElem hlt⟩
      obtain ⟨F2, g2, rx⟩ := src.yld i F' H' x H2 d hd a' R'.ex y
      obtain ⟨is, ρ1, b, tg, sub, tv, ht, hf⟩ := hs d (List.mem_of_getElem? hd)
      refine tg.2 F0 H0 F2 H2 _ x (R'.grow g2) rx _ fun σ3 R3 l3 k3 => ⟨?_, ?_⟩
      · rw [wipe_same l3 k3 sub, wipe_wipe]
      · refine tv F0 H0 F2 H2 σ3 R3 _ fun F3 H3 g3 => ?_
        have gA := (g'.trans g2).trans g3
        have RA := (R'.grow g2).grow g3
        have nD : F3 Dl = none := g3.n _ _ (g2.h _ _ hDH) rfl (g2.n _ _ hDH rfl hDF)
        cases b with
        | false =>
          show ∃ F2 acc, _
          refine ⟨F3, acc, gA, RA, (ex.trans g2.f).trans g3.f, nD, g3.h _ _ (g2.h _ _ hDH), ?_⟩
          rw [filterMap_take hd, hf rfl]
          simpa using (ra.mono g2.f).mono g3.f
        | true =>
          obtain ⟨yv, ey, hy⟩ := ht rfl
          show te σ3 H3 _
          refine hy F0 H0 F3 H3 σ3 (R3.grow g3) _ fun v F4 H4 g4 r4 => ?_
          have nD4 : F4 Dl = none := g4.n _ _ (g3.h _ _ (g2.h _ _ hDH)) rfl nD
          have hD4 : H4 Dl = some (.lst acc) := g4.h _ _ (g3.h _ _ (g2.h _ _ hDH))
          have rA := ((ra.mono g2.f).mono g3.f).mono g4.f
          refine ⟨acc, hD4, ?_, F4, acc ++ [v], (gA.trans g4).side hD0 nD4, (RA.grow g4).side hD00 nD4 fr, ((ex.trans g2.f).trans g3.f).trans g4.f, nD4, upd_same, ?_⟩
          · rw [rA.length, sizeLine_eq]
            have l1 := List.length_filterMap_le f (ds.take i)
            have l2 := List.length_take_le i ds
            omega
          · rw [filterMap_take hd, ey]
            exact rA.append (.cons r4 .nil)
    · have e : i = ds.length := by omega
      subst e
      refine .inl ⟨src.stop _ _ a' R'.ex, q Dl acc F' H' g' hD0 hDF hDH ?_⟩
      rw [List.take_length] at ra
      exact ra
theorem ev_lc {wi : TI} {g : TG} {tt : TT} {te : TE} {vs : List Nat} {f : D → Option D} (hw : WiD K wi ρ ds) (hs : ∀ d ∈ ds, Cmp1 K g tt te vs (wipeS ρ vs) d (f d)) (hl : ds.length ≤ 16777215) :
    EvL K (tLc wi g tt te vs) ρ (ds.filterMap f) := fun F0 H0 F H σ R Q q => lc_at R (hw F0 H0 F H σ R) hs hl q
end
end DL
set_option Elab.async false
set_option linter.all false
set_option maxRecDepth 100000
set_option maxHeartbeats 1000000
/-! Defs over plain data: their promises, their calls. -/
namespace DL
open PySem PySem.Spec PyProof.Rows L2
/-- what a def comes to -/
inductive Res where
  | ok (d : D) | er (C : Addr) (fs : List (Str × D))
def Res.out : Res → Out
  | .ok d => .rt d
  | .er C fs => .er C fs []
/-- the promise: on the data ds it comes to r, where f ds r -/
def SpF (K : PySem.W.Frag) (n : Nat) (f : List D → Res → Prop) : Sp := fun vs H Q E => ∃ F ds r, Ex F H ∧ Reps K F vs ds ∧ vs.length = n ∧ f ds r ∧
  match r with
  | .ok d => ∀ v F' H', Gr F H F' H' → Rep K F' v d → Q v H'
  | .er C fs => ∀ od F' H', Gr F H F' H' → XR K F' H' od fs → E (.ref C) od H'
section
variable {K : PySem.W.Frag} {W : WX} {ρ ρ' : List Sl} {te ta tb : TE} {d x y z : D} {xs ys ds zs : List D} {t : TA} {i n : Nat} {f : List D → Res → Prop}
theorem ev_call {Es : L2.St → XK} (h : AvD K t ρ ds) (hf : f ds (.ok d)) (hn : ds.length = n := by rfl) : EvD K (tCallS (SpF K n f) Es t) ρ d := fun F0 H0 F H σ R Q q =>
  h F0 H0 F H σ R _ fun vs F1 H1 g1 r1 => ⟨F1, ds, .ok d, g1.s, r1, by rw [r1.length]; exact hn, hf, fun v F2 H2 g2 r2 => q v F2 H2 (g1.trans g2) r2⟩
/-- the slots at a def's entry -/
def entry (N : List Str) (ds : List D) : List Sl := ds.map Sl.d ++ List.replicate (N.length - ds.length) .no
theorem entry_rel {N : List Str} {F H : Hp} {vs : List V} (e : Ex F H) (r : Reps K F vs ds) : RelS K F H F H (L2.start N vs) (entry N ds) := by
  have hl := r.length
  have own : ∀ (j : Nat) (y : Sl), (entry N ds)[j]? = some y → y.own = false := fun j y h => by
    unfold entry at h
    by_cases hj : j < (ds.map Sl.d).length
    · rw [List.getElem?_append_left hj, List.getElem?_map] at h
      cases e : ds[j]? with
      | none => rw [e] at h; cases h
      | some d => rw [e] at h; cases h; rfl
    · rw [List.getElem?_append_right (by omega), List.getElem?_replicate] at h
      split at h
      · cases h; rfl
      · cases h
  refine ⟨.refl e, by unfold entry L2.start; simp [hl], fun j y o h1 h2 => ?_, fun j k y z p h1 _ o1 _ _ _ => ?_⟩
  · unfold entry at h1
    unfold L2.start at h2
    by_cases hj : j < ds.length
    · rw [List.getElem?_append_left (by simpa using hj), List.getElem?_map] at h1
      rw [List.getElem?_append_left (by simpa [hl] using hj), List.getElem?_map] at h2
      cases e1 : ds[j]? with
      | none => rw [e1] at h1; cases h1
      | some d =>
        rw [e1] at h1; cases h1
        obtain ⟨v, e2, rv⟩ := r.getD e1
        rw [e2] at h2; cases h2
        exact ⟨v, rfl, rv⟩
    · rw [List.getElem?_append_right (by simpa using hj), List.getElem?_replicate] at h1
      split at h1
      · cases h1; trivial
      · cases h1
  · rw [own j y h1] at o1; cases o1
/-- how a def's body ends: by its result, or behind its last row (None) -/
def FnEnd (K : PySem.W.Frag) (W : WX) (t : TS) (ρ : List Sl) (r : Res) : Prop := (match r with
  | .ok d => SvD K W t ρ (.rt d)
  | .er C fs => ∃ ρ', SvD K W t ρ (.er C fs ρ')) ∨ (r = .ok .non ∧ ∃ ρ', SvD K W t ρ (.nx ρ'))
end
section
variable {P : Program} {w : World} {K : PySem.W.Frag} {mg : Str → Option Value} {base : Heap}
abbrev cxD (P : Program) (w : World) (K : PySem.W.Frag) (mg : Str → Option Value) (base : Heap) (N : List Str) (qual : Str) (st : Stmt) (f : Addr) (cdv : Value) (A : Around) (outer : List Env) (s : Shared) (H : Hp) (E : XK) : Cx :=
  cxOf (L2N.CX P w) P w K mg base N qual (defScope st) f cdv A outer s H E
abbrev wD (E : XK) : WX := fun cls d _ H => E cls d H
/-- nothing is let out -/
theorem takesN {X : Cx} : L2N.Takes X (fun _ _ _ _ => False) := fun _ _ x => by
  obtain ⟨_, _, _, _, _, _, _, _, _, _, _, _, _, _, _, _, no⟩ := x
  exact no.elim
/-- THE RULE for a def -/
theorem fnD {x qual : Str} {st : Stmt} {f : Addr} {fd : FuncData} {N ps : List Str} {k : Nat} (F : Fun K x qual st f fd) (S : FnScope N ps (defScope st)) (fr : List D → Res → Prop)
    (hbody : ∀ (cdv : Value) (A : Around) (outer : List Env) (s : Shared) (H : Hp) (E : XK), Room k (A.deeper (envOfC qual (defScope st) s.heap.objs.size f cdv)) →
      ∃ t, PSs (cxD P w K mg base N qual st f cdv A outer s H E) (defBody st) t ∧ ∀ ds r, fr ds r → ds.length = ps.length → FnEnd K (wD E) t (entry N ds) r) : FnOk P w K mg base (L2N.CX P w) (k + 1) f fd ps (SpF K ps.length fr) := by
  obtain ⟨oc, od, kV, doc, pm, an, cdv, ct, osl, rfl, lk, hcd⟩ := F.ex
  refine fn_of lk hcd S (fun vs H Q E h => ?_) fun A outer s H vs Q E hr h => ?_
  · obtain ⟨_, _, _, _, _, h, _⟩ := h
    exact h
  · obtain ⟨t, ht, hs⟩ := hbody cdv A outer s H E hr
    obtain ⟨F1, ds, r, ex, rs, hl, hf, q⟩ := h
    refine ⟨t, ht, ?_⟩
    have R := entry_rel (N := N) ex rs
    rcases hs ds r hf (by rw [← rs.length]; exact hl) with h | ⟨rfl, ρ', h⟩
    · cases r with
      | ok d => exact h _ F1 H F1 H _ R fun v F' H' _ g rv => q v F' H' g rv
      | er C fs =>
        obtain ⟨ρ', h⟩ := h
        exact h _ F1 H F1 H _ R fun od σ F' H' _ g rv => q od F' H' g.gr rv
    · exact h _ F1 H F1 H _ R fun σ F' H' _ R' => q .non F' H' R'.gr .non
end
end DL
set_option Elab.async false
set_option linter.all false
set_option maxRecDepth 100000
set_option maxHeartbeats 1000000
/-! Rules of syntax that leave the kind of the operands open, and their readings over plain data. -/
namespace DL
open PySem PySem.Spec PyProof.Rows L2
section
variable {X : Cx} {K : PySem.W.Frag}
abbrev rS2 : R2 := fun x y H Q => ∃ i j, x = .str i ∧ y = .str j ∧ i.length + j.length ≤ sizeLine ∧ Q (.str (i ++ j)) H
def rAddA (K : PySem.W.Frag) : R2 := fun x y H Q => rI0 (fun i j => .int (i + j)) x y H Q ∨ (fun x y H Q => rS2 x y H Q ∨ (fun x y H Q => rCat x y H Q ∨ rCatA K x y H Q) x y H Q) x y H Q
theorem opA_add : OpR X (binaryOp .Add) (rAddA X.K) := OpR.or op_add (OpR.or op_add_str (OpR.or op_cat op_catA))
def rMulA : R2 := fun x y H Q => rI CMulX (fun i j => .int (i * j)) x y H Q ∨ rRep x y H Q
theorem opA_mul : OpR X (binaryOp .Mult) rMulA := OpR.or op_mulX op_rep
/-- // by any divisor below 2 ^ 9000 -/
def CDivX (_ j : Int) : Prop := j ≠ 0 ∧ j.natAbs.log2 < 9000
theorem op_fdivX : OpR X (binaryOp .FloorDiv) (rI CDivX fun i j => .int (i.fdiv j)) := opI fun _ _ _ _ _ _ _ hc q => floordiv_int hc.1 q (.inl (PyProof.noPylong_of_log2 hc.2))
def rDivA : R2 := fun x y H Q => rI CDiv (fun i j => .int (i / j)) x y H Q ∨ (fun x y H Q => rI CDivW (fun i j => .int (i / j)) x y H Q ∨ rI CDivX (fun i j => .int (i.fdiv j)) x y H Q) x y H Q
theorem opA_div : OpR X (binaryOp .FloorDiv) rDivA := OpR.or op_fdiv (OpR.or op_fdivW op_fdivX)
abbrev rLtS : R2 := fun x y H Q => ∃ i j, x = .str i ∧ y = .str j ∧ Q (.bl (decide (i.cps.toList < j.cps.toList))) H
/-- a call of a def of the module -/
def Cal (P : Program) (w : World) (K : PySem.W.Frag) (mg : Str → Option Value) (base : Heap) (k : Nat) (x : Str) (ps : List Str) (fr : List D → Res → Prop) : Prop :=
  ∃ f fd, mg x = some (.ref f) ∧ PySem.W.keepIn K (.ref f) = true ∧ Binds K fd ps [] ∧ FnOk P w K mg base (L2N.CX P w) k f fd ps (SpF K ps.length fr)
theorem pe_callD {x : Str} {p pos : Pos} {e : Expr} {es : List Expr} {t : TA} {W : WX} {k : Nat} {ps : List Str} {fr : List D → Res → Prop} (C : Cal X.prog X.w X.K X.mg X.base k x ps fr) (hr : Room k X.A) (hg : Gl X x) (tk : L2N.Takes X W) (ha : PA X (e :: es) t)
    (hdb : (x == ("__debug__" : Str)) = false := by decide) (he : starEach (e :: es) X.env = (false, eval e X.env) :: starEach es X.env := by rfl) (hpl : (backTo pos (starEach es X.env)).any (·.1) = false := by rfl) :
    PE X (.Call (.Name x p) (e :: es) [] pos) (tCallS (SpF X.K ps.length fr) (WE W) t) := by
  obtain ⟨f, fd, h1, h2, h3, h4⟩ := C
  exact pe_callS h4 hr hg h1 h2 h3 (fun σ => L2N.passAt tk σ) ha hdb he hpl
/-- where a def of the text stands -/
def FunAt (K : PySem.W.Frag) (mg : Str → Option Value) (x : Str) (st : Stmt) (ps : List Str) : Prop := ∃ f fd, mg x = some (.ref f) ∧ Fun K x x st f fd ∧ Binds K fd ps []
theorem cal_of {P : Program} {w : World} {mg : Str → Option Value} {base : Heap} {k : Nat} {x : Str} {st : Stmt} {N ps : List Str} (A : FunAt K mg x st ps) (S : FnScope N ps (defScope st)) (fr : List D → Res → Prop)
    (hbody : ∀ (f : Addr) (cdv : Value) (A : Around) (outer : List Env) (s : Shared) (H : Hp) (E : XK), Room k (A.deeper (envOfC x (defScope st) s.heap.objs.size f cdv)) →
      ∃ t, PSs (cxD P w K mg base N x st f cdv A outer s H E) (defBody st) t ∧ ∀ ds r, fr ds r → ds.length = ps.length → FnEnd K (wD E) t (entry N ds) r) : Cal P w K mg base (k + 1) x ps fr := by
  obtain ⟨f, fd, h1, h2, h3⟩ := A
  exact ⟨f, fd, h1, h2.kp, h3, fnD h2 S fr (hbody f)⟩
/-- iteration over a list, a tuple, a dict's keys -/
def iSeq (K : PySem.W.Frag) (te : TE) : TI := fun σ H R => iList K te σ H R ∨ iTup K te σ H R ∨ iKeys te σ H R
theorem pi_seq {tg l : Expr} {tl : TE} (hl : PE X l tl) : PI X tg l (iSeq X.K tl) := by
  refine ⟨fun pins s σ H R I h => ?_⟩
  rcases h with h | h | h
  · exact (pi_list hl).run pins s σ H R I h
  · exact (pi_tup hl).run pins s σ H R I h
  · exact (pi_keys hl).run pins s σ H R I h
theorem pt_truth2 {a : Expr} {ta : TE} (ha : PE X a ta) (he : ∀ whole, isTrue a X.env whole = (do let v ← whole; standAt a.pos; holding [v] (truthy v)) := by intro _; rfl) : PT X a (tTru X.K ta) := pt_truth ha he
/-- whatever sequence is called tuple, list -/
abbrev rTupC (K : PySem.W.Frag) : List V → Hp → VK → Prop := fun xs H Q => ∃ p ys, xs = [.ref p] ∧ ((SqL K H p ys ∧ ∀ l, H l = none → Q (.ref l) (upd H l (.tup ys))) ∨ (SqT K H p ys ∧ Q (.ref p) H))
abbrev rLstC (K : PySem.W.Frag) : List V → Hp → VK → Prop := fun xs H Q => ∃ p ys, xs = [.ref p] ∧ (SqL K H p ys ∨ SqT K H p ys) ∧ ∀ l, H l = none → Q (.ref l) (upd H l (.lst ys))
theorem CallR.or {f : Value} {r r' : List V → Hp → VK → Prop} (h : CallR X f r) (h' : CallR X f r') : CallR X f (fun xs H Q => r xs H Q ∨ r' xs H Q) := by
  intro pins s σ H xs us Q I rv q
  rcases q with q | q
  · exact h pins s σ H xs us Q I rv q
  · exact h' pins s σ H xs us Q I rv q
def rIntC : List V → Hp → VK → Prop := fun xs H Q => (∃ i, xs = [.int i] ∧ Q (.int i) H) ∨ ∃ k, xs = [.bl k] ∧ Q (.int (if k then 1 else 0)) H
theorem cr_int : CallR X (.type "int") rIntC := call_int1
def rAbsC : List V → Hp → VK → Prop := fun xs H Q => ∃ i, xs = [.int i] ∧ Q (.int (if i < 0 then -i else i)) H
theorem cr_abs : CallR X (.builtin "abs") rAbsC := call_abs
end
section
variable {K : PySem.W.Frag} {W : WX} {ρ ρ' : List Sl} {te ta tb tl : TE} {d x y z : D} {xs ys ds zs : List D} {t : TA} {i j : Int} {n : Nat}
theorem ev_addI (ha : EvD K ta ρ (.int i)) (hb : EvD K tb ρ (.int j)) : EvD K (tOp (rAddA K) ta tb) ρ (.int (i + j)) := ev_op ha hb (rvD_l rv_I0)
theorem ev_addS {s t : Str} (ha : EvD K ta ρ (.str s)) (hb : EvD K tb ρ (.str t)) (hl : s.length + t.length ≤ 100000) : EvD K (tOp (rAddA K) ta tb) ρ (.str (s ++ t)) := ev_op ha hb (rvD_r (rvD_l (rv_addS hl)))
theorem evl_addL (ha : EvD K ta ρ (.lst xs)) (hb : EvD K tb ρ (.lst ys)) (hl : xs.length + ys.length ≤ 16777216) : EvL K (tOp (rAddA K) ta tb) ρ (xs ++ ys) := evl_op ha hb (rvL_r (rvL_r (rvL_l (rv_cat hl))))
theorem ev_subI (ha : EvD K ta ρ (.int i)) (hb : EvD K tb ρ (.int j)) : EvD K (tOp (rI0 fun i j => .int (i - j)) ta tb) ρ (.int (i - j)) := ev_op ha hb rv_I0
theorem ev_mulI (ha : EvD K ta ρ (.int i)) (hb : EvD K tb ρ (.int j)) (hc : CMulX i j) : EvD K (tOp rMulA ta tb) ρ (.int (i * j)) := ev_op ha hb (rvD_l (rv_I hc))
theorem evl_rep (ha : EvD K ta ρ (.lst xs)) (hb : EvD K tb ρ (.int i)) (h1 : -(2 ^ 63) ≤ i) (h2 : i < 2 ^ 63) (hl : xs.length * i.toNat ≤ 16777216) : EvL K (tOp rMulA ta tb) ρ (List.replicate i.toNat xs).flatten := evl_op ha hb (rvL_r (rv_rep h1 h2 hl))
theorem ev_divI (ha : EvD K ta ρ (.int i)) (hb : EvD K tb ρ (.int j)) (hc : CDiv i j) : EvD K (tOp rDivA ta tb) ρ (.int (i / j)) := ev_op ha hb (rvD_l (rv_I hc))
theorem ev_divW (ha : EvD K ta ρ (.int i)) (hb : EvD K tb ρ (.int j)) (hc : CDivW i j) : EvD K (tOp rDivA ta tb) ρ (.int (i / j)) := ev_op ha hb (rvD_r (rvD_l (rv_I hc)))
theorem ev_divX (ha : EvD K ta ρ (.int i)) (hb : EvD K tb ρ (.int j)) (hc : CDivX i j) : EvD K (tOp rDivA ta tb) ρ (.int (i.fdiv j)) := ev_op ha hb (rvD_r (rvD_r (rv_I hc)))
theorem divX_of {i j : Int} (h : j ≠ 0) (b : Nat) (hb : j.natAbs < 2 ^ b) (h0 : 0 < b) (h9 : b ≤ 9000) : CDivX i j := ⟨h, Nat.lt_of_lt_of_le (PySem.Flt.log2_lt_of h0 hb) h9⟩
theorem ev_modI (ha : EvD K ta ρ (.int i)) (hb : EvD K tb ρ (.int j)) (hc : 0 < j) : EvD K (tOp (rI (fun _ j => 0 < j) fun i j => .int (i % j)) ta tb) ρ (.int (i % j)) := ev_op ha hb (rv_I hc)
theorem ev_powI (ha : EvD K ta ρ (.int i)) (hb : EvD K tb ρ (.int j)) (hc : CPow i j) : EvD K (tOp (rI CPow fun i j => .int (i ^ j.toNat)) ta tb) ρ (.int (i ^ j.toNat)) := ev_op ha hb (rv_I hc)
theorem tv_cmpI {g : Int → Int → Bool} (ha : EvD K ta ρ (.int i)) (hb : EvD K tb ρ (.int j)) : TvD K (tTest (tOp (rI0 fun i j => .bl (g i j)) ta tb)) ρ (g i j) := tv_test (ev_op ha hb rv_B0)
theorem tv_cmpIl {g : Int → Int → Bool} {r' : R2} (ha : EvD K ta ρ (.int i)) (hb : EvD K tb ρ (.int j)) : TvD K (tTest (tOp (fun x y H Q => rI0 (fun i j => .bl (g i j)) x y H Q ∨ r' x y H Q) ta tb)) ρ (g i j) := tv_test (ev_op ha hb (rvD_l rv_B0))
theorem tv_eqD (ha : EvD K ta ρ x) (hb : EvD K tb ρ y) (hx : x.ok = true) (hy : y.ok = true) : TvD K (tTest (tOp (rEqD K) ta tb)) ρ (PyData.eqv x.py y.py) := tv_test (ev_op ha hb (rv_eqD hx hy))
theorem tv_neD (ha : EvD K ta ρ x) (hb : EvD K tb ρ y) (hx : x.ok = true) (hy : y.ok = true) : TvD K (tTest (tOp (rNeD K) ta tb)) ρ (!PyData.eqv x.py y.py) := tv_test (ev_op ha hb (rv_neD hx hy))
theorem tv_eqI (ha : EvD K ta ρ (.int i)) (hb : EvD K tb ρ (.int j)) : TvD K (tTest (tOp (rEqD K) ta tb)) ρ (i == j) := tv_eq (tv_eqD ha hb rfl rfl) rfl
theorem tv_neI (ha : EvD K ta ρ (.int i)) (hb : EvD K tb ρ (.int j)) : TvD K (tTest (tOp (rNeD K) ta tb)) ρ (!(i == j)) := tv_eq (tv_neD ha hb rfl rfl) rfl
theorem ev_intC (ha : EvD K ta ρ (.int i)) : EvD K (tCB rIntC (tCons ta tNil)) ρ (.int i) := ev_cb (av_cons ha av_nil) fun F H e vs r Q q => by
  cases r with
  | cons a r =>
    cases a; cases r
    exact .inl ⟨i, rfl, q _ F H (.refl e) (.int i)⟩
theorem ev_absC (ha : EvD K ta ρ (.int i)) : EvD K (tCB rAbsC (tCons ta tNil)) ρ (.int (if i < 0 then -i else i)) := ev_cb (av_cons ha av_nil) fun F H e vs r Q q => by
  cases r with
  | cons a r =>
    cases a; cases r
    exact ⟨i, rfl, q _ F H (.refl e) (.int _)⟩
theorem ev_tupL (h : EvSL K te ρ ds) : EvD K (tCB (rTupC K) (tCons te tNil)) ρ (.tup ds) := ev_cbSL h fun F H e p vs s r Q q =>
  ⟨p, vs, rfl, .inl ⟨s, fun l hl => q _ (upd F l (.tup vs)) _ (.new e hl) (.tup upd_same (r.mono (Ex.new (e.back hl))))⟩⟩
theorem ev_tupT (h : EvD K te ρ (.tup ds)) : EvD K (tCB (rTupC K) (tCons te tNil)) ρ (.tup ds) := ev_cb (av_cons h av_nil) fun F H e vs r Q q => by
  cases r with
  | cons a r =>
    cases r
    cases a with
    | tup h1 rs => exact ⟨_, _, rfl, .inr ⟨SqT.of (e _ _ h1), q _ F H (.refl e) (.tup h1 rs)⟩⟩
theorem evl_lstL (h : EvSL K te ρ ds) : EvL K (tCB (rLstC K) (tCons te tNil)) ρ ds := evl_cbSL h fun F H e p vs s r Q q =>
  ⟨p, vs, rfl, .inl s, fun l hl => q l vs F _ (.own e hl) hl (e.back hl) upd_same r⟩
theorem evl_lstT (h : EvST K te ρ ds) : EvL K (tCB (rLstC K) (tCons te tNil)) ρ ds := fun F0 H0 F H σ R Q q =>
  h F0 H0 F H σ R _ fun p vs F1 H1 g1 s1 r1 => ⟨p, vs, rfl, .inr s1, fun l hl => q l vs F1 _ (g1.trans (.own g1.s hl)) (g1.h.back hl) (g1.s.back hl) upd_same r1⟩
theorem wi_seqL (h : WiD K (iList K te) ρ ds) : WiD K (iSeq K te) ρ ds := fun F0 H0 F H σ R Q q => .inl (h F0 H0 F H σ R Q q)
theorem wi_seqT (h : WiD K (iTup K te) ρ ds) : WiD K (iSeq K te) ρ ds := fun F0 H0 F H σ R Q q => .inr (.inl (h F0 H0 F H σ R Q q))
theorem ev_ty {n : String} : EvD K (tC (.ty n)) ρ (.ty n) := fun F0 H0 F H σ R Q q => q _ F H (.refl R.ex) (.ty n)
/-- a datum's built-in class -/
def D.tyN : D → String
  | .non => "NoneType" | .bl _ => "bool" | .int _ => "int" | .str _ => "str" | .lst _ => "list" | .tup _ => "tuple" | .scr _ => "list" | .dk _ _ => "dict" | .dt _ _ => "dict"
  | _ => ""
end
end DL
set_option Elab.async false
set_option linter.all false
set_option maxRecDepth 100000
set_option maxHeartbeats 1000000
/-! sorted of data; slices; locks; comprehensions with two fors. -/
namespace DL
open PySem PySem.Spec PyProof.Rows L2
/-- what may be sorted here -/
structure SortOk (ds : List PyData) : Prop where
  al : PySem.W.AllAlike ds
  so : PySem.W.Sortable ds
  dp : ∀ d ∈ ds, d.depth ≤ 8
  sz : ds.length ≤ 16777216
abbrev srtP (bs : List (V × PyData)) : List (V × PyData) := bs.mergeSort (PySem.W.dataLe false (·.2))
def rSortA (K : PySem.W.Frag) : List V → Hp → VK → Prop := fun xs H Q => ∃ (a : Addr) (bs : List (V × PyData)), xs = [.ref a] ∧ SqL K H a (bs.map (·.1)) ∧ (∀ b ∈ bs, Dp K H b.1 b.2) ∧ SortOk (bs.map (·.2)) ∧
  ∀ p, H p = none → Q (.ref p) (upd H p (.lst ((srtP bs).map (·.1))))
/-- a dict's keys, sorted -/
def keyPy : Key → PyData
  | .inl i => .int i
  | .inr s => .str s
def rSortK : List V → Hp → VK → Prop := fun xs H Q => ∃ (a : Addr) (ws : List (Key × V)), xs = [.ref a] ∧ Rd H a (.dK ws) ∧ SortOk (ws.map fun kv => keyPy kv.1) ∧
  ∀ p, H p = none → Q (.ref p) (upd H p (.lst ((srtP (ws.map fun kv => (kV kv.1, keyPy kv.1))).map (·.1))))
def rSortT : List V → Hp → VK → Prop := fun xs H Q => ∃ (a : Addr) (ws : List (List Key × V)), xs = [.ref a] ∧ Rd H a (.dT ws) ∧ SortOk (ws.map fun kv => PyData.tuple (kv.1.map keyPy)) ∧
  ∀ (p : Addr) (bs : List (V × PyData)), H p = none → bs.map (·.2) = (ws.map fun kv => PyData.tuple (kv.1.map keyPy)) → (∀ b ∈ bs, ∃ (q : Addr) (k : List Key), b.1 = V.ref q ∧ H q = some (.tup (k.map kV)) ∧ b.2 = PyData.tuple (k.map keyPy)) →
    Q (.ref p) (upd H p (.lst ((srtP bs).map (·.1))))
section
variable {X : Cx} {pins : List (Addr × Obj)} {σ : L2.St} {H : Hp} {s : Shared}
/-- the pairs of a value and its datum, each with the machine's value -/
theorem each_of (I : Inv X pins σ H s) : ∀ {bs : List (V × PyData)} {us : List Value}, Vals (bs.map (·.1)) us → (∀ b ∈ bs, Dp X.K H b.1 b.2) →
    PySem.W.EachIs (fun (u : Value) (b : V × PyData) => RelV b.1 u) us bs ∧ PySem.W.EachIs (fun (u : Value) (b : V × PyData) => ∃ as, Reads s.heap u b.2 as) us bs
  | [], us, r, _ => by
    cases r
    exact ⟨.nil, .nil⟩
  | b :: bs, us, r, h => by
    cases r with
    | cons r1 r2 =>
      obtain ⟨e1, e2⟩ := each_of I r2 fun x hx => h x (List.mem_cons_of_mem _ hx)
      exact ⟨.cons r1 e1, .cons (Dp.reads I _ _ _ (h b List.mem_cons_self) r1) e2⟩
theorem vals_each : ∀ {us : List Value} {bs : List (V × PyData)}, PySem.W.EachIs (fun (u : Value) (b : V × PyData) => RelV b.1 u) us bs → Vals (bs.map (·.1)) us
  | _, _, .nil => .nil
  | _, _, .cons h r => .cons h (vals_each r)
theorem cr_sortL (hu : X.A.units + 64 < cLine) : CallR X (.builtin "sorted") (rSortA X.K) := by
  intro pins s σ H vs us Q I r h
  obtain ⟨a, bs, rfl, hs, hd, so, q⟩ := h
  obtain ⟨its, rv, hl, hz⟩ := I.list hs
  rw [Vals.ref1 r]
  obtain ⟨e1, e2⟩ := each_of I rv hd
  refine PySem.W.sorted_data (enc := fun b : V × PyData => b.2) hl.isList e1 e2 so.al so.so ?_ (fun b hb => ?_) fun out ho eo => ?_
  · have := so.sz; rw [List.length_map] at this; exact sz_of this
  · have := so.dp b.2 (List.mem_map_of_mem hb); omega
  · obtain ⟨ep, he'⟩ := sortedAll_at s.heap its out.toArray
    have rv' := vals_each eo
    refine ⟨.ref _, upd H (s.heap.objs.size + 1) (.lst ((srtP bs).map (·.1))), I.laid (t' := s.toks) (fun _ _ => sortedAll_old) (Nat.le_succ _) ⟨?_, out, ep, rv', he'⟩, rfl, q _ (I.hok.fresh (Nat.le_succ _))⟩
    rw [List.length_map, List.length_mergeSort]
    have := so.sz; rw [List.length_map] at this; exact sz_of this
/-- keys hold no list -/
theorem reads_key {h : Heap} {v : Value} : ∀ {k : Key} {as : List Addr}, Reads h v (keyPy k) as → as = []
  | .inl i, as, r => by
    have r' : Reads h v (.int i) as := r
    cases r'; rfl
  | .inr z, as, r => by
    have r' : Reads h v (.str z) as := r
    cases r'; rfl
theorem readsAll_key {h : Heap} : ∀ {ks : List Key} {vs : List Value} {as : List Addr}, ReadsAll h vs (ks.map keyPy) as → as = []
  | [], vs, as, r => by
    have r' : ReadsAll h vs [] as := r
    cases r'; rfl
  | k :: ks, vs, as, r => by
    have r' : ReadsAll h vs (keyPy k :: ks.map keyPy) as := r
    cases r' with
    | cons r1 r2 => rw [reads_key r1, readsAll_key r2]; rfl
theorem reads_keyT {h : Heap} {v : Value} {ks : List Key} {as : List Addr} (r : Reads h v (.tuple (ks.map keyPy)) as) : as = [] := by
  cases r with
  | tuple _ _ _ r => exact readsAll_key r
/-- data without lists -/
def NoL (d : PyData) : Prop := ∀ h v as, Reads h v d as → as = []
theorem noL_key (k : Key) : NoL (keyPy k) := fun _ _ _ r => reads_key r
theorem noL_keyT (ks : List Key) : NoL (.tuple (ks.map keyPy)) := fun _ _ _ r => reads_keyT r
theorem each_noL {h : Heap} {a : Addr} {us : List Value} {bs : List (V × PyData)} (e : PySem.W.EachIs (fun (u : Value) (b : V × PyData) => ∃ as, Reads h u b.2 as) us bs) (n : ∀ b ∈ bs, NoL b.2) :
    PySem.W.EachIs (fun (u : Value) (b : V × PyData) => ∃ as, Reads h u b.2 as ∧ a ∉ as) us bs := by
  induction e with
  | nil => exact .nil
  | @cons u b us bs h1 t ih =>
    obtain ⟨as, r⟩ := h1
    exact .cons ⟨as, r, by rw [n b List.mem_cons_self _ _ _ r]; simp⟩ (ih fun x hx => n x (List.mem_cons_of_mem _ hx))
theorem each_keep {h h' : Heap} (k : ∀ b o, h.get? b = some o → h'.get? b = some o) {us : List Value} {bs : List (V × PyData)} (e : PySem.W.EachIs (fun (u : Value) (b : V × PyData) => ∃ as, Reads h u b.2 as) us bs) :
    PySem.W.EachIs (fun (u : Value) (b : V × PyData) => ∃ as, Reads h' u b.2 as) us bs := by
  induction e with
  | nil => exact .nil
  | @cons u b us bs h1 t ih =>
    obtain ⟨as, r⟩ := h1
    exact .cons ⟨as, Reads.keeps k r⟩ ih
/-- the new list of a dict's keys is sorted: what follows the collecting -/
theorem sort_tail {us : List Value} {bs : List (V × PyData)} {h' : Heap} {tk : Nat} {Q : VK} {R : Unit → Shared → Prop} (hu : X.A.units + 64 < cLine) (I1 : Inv X pins σ H { s with heap := h', toks := tk }) (rv : Vals (bs.map (·.1)) us) (hd : ∀ b ∈ bs, Dp X.K H b.1 b.2)
    (so : SortOk (bs.map (·.2))) (nl : ∀ b ∈ bs, NoL b.2) (q : ∀ p, H p = none → Q (.ref p) (upd H p (.lst ((srtP bs).map (·.1)))))
    (hR : ∀ s', EP X pins σ Q (.ref h'.objs.size) s' → R () s') (A : Around) (hA : A.units ≤ X.A.units + 40) :
    wpAny (model X.prog X.w) A (call (.builtin "list.sort") [.ref h'.objs.size]) (fun _ s' => R () s') X.xe { s with heap := h'.push (seqObj "list" us.toArray 0), toks := tk } := by
  have hb : bs.length ≤ sizeLine := by have := so.sz; rw [List.length_map] at this; exact sz_of this
  have hoL : (h'.push (seqObj "list" us.toArray 0)).get? h'.objs.size = some (seqObj "list" us.toArray 0) := Heap.get?_push_size _ rfl
  obtain ⟨e1, e2⟩ := each_of I1 rv hd
  have e3 := each_keep (h' := h'.push (seqObj "list" us.toArray 0)) (fun b o e => Heap.get?_push_of_some _ e) e2
  refine PySem.W.list_sort_data (enc := fun b : V × PyData => b.2) (s := { s with heap := h'.push (seqObj "list" us.toArray 0), toks := tk }) hoL e1 (each_noL e3 nl) so.al so.so hb (fun b hb => ?_) fun out ho eo => ?_
  · have := so.dp b.2 (List.mem_map_of_mem hb); omega
  · obtain ⟨ep, he'⟩ := sortedHeap_at (vs := us) (out := out.toArray) hoL
    have rv' := vals_each eo
    refine hR _ ⟨.ref h'.objs.size, upd H h'.objs.size (.lst ((srtP bs).map (·.1))), I1.laid (t' := tk) (fun b u e => ?_) (Nat.le_refl _) ⟨?_, out, ep, rv', he'⟩, rfl, q _ (I1.hok.fresh (Nat.le_refl _))⟩
    · have hb : b < h'.objs.size := Heap.lt_size e
      rw [sortedHeap_old (Nat.ne_of_lt hb) (by rw [size_push']; exact Nat.lt_succ_of_lt hb)]
      exact Heap.get?_push_of_some _ e
    · rw [List.length_map, List.length_mergeSort]; exact hb
theorem cr_sortT (hc : X.calm = true) (hu : X.A.units + 64 < cLine) : CallR X (.builtin "sorted") rSortT := by
  intro pins s σ H xs us Q I r h
  obtain ⟨a, ws, rfl, hd, so, q⟩ := h
  obtain ⟨u, rfl, rx⟩ := r.one
  cases rx
  obtain ⟨z, hs, ks, pr, o, es, ep, ho, hx, hdt, he, hn⟩ := (show ObjOk X.prog X.w H s.heap a (.dT ws) from hd.ok I.hok)
  have l1 : es.size = ks.length := size_of_entries he
  have l2 : ws.length = ks.length := Paired.length pr
  refine Calls.call_function_entry kind_sorted plain_sorted entry_sorted (args_sorted1 _) ?_
  unfold Builtin.«sorted»
  refine wpAny_bind (m := checkCount "sorted" 1 1 _) (wpAny_pure ?_)
  refine wpAny_bind (PySem.W.kdu_collect (A := X.A.in1) (kdl_raw hs hx hdt) (I.ok.hd hc) ho (by omega) fun h' tk acc hk hacc => ?_)
  have keysAre : ∀ {kv : List (List Key × V)} {ys : List (List Key × Addr × Value)}, Paired (fun (p : List Key × V) (q : List Key × Addr × Value) => p.1 = q.1 ∧ H q.2.1 = some (.tup (p.1.map kV)) ∧ RelV p.2 q.2.2) kv ys →
      (ys.map fun x => (V.ref x.2.1, PyData.tuple (x.1.map keyPy))).map (·.2) = kv.map (fun kv => PyData.tuple (kv.1.map keyPy)) ∧
        ∀ b ∈ ys.map fun x => (V.ref x.2.1, PyData.tuple (x.1.map keyPy)), ∃ (q : Addr) (k : List Key), b.1 = V.ref q ∧ H q = some (.tup (k.map kV)) ∧ b.2 = PyData.tuple (k.map keyPy) := by
    intro kv ys p
    induction p with
    | nil => exact ⟨rfl, fun _ z => nomatch z⟩
    | cons h t ih =>
      refine ⟨?_, fun b hb => ?_⟩
      · rw [List.map_cons, List.map_cons, List.map_cons, ih.1, h.1]
      · rw [List.map_cons] at hb
        rcases List.mem_cons.mp hb with e | e
        · rw [e]; exact ⟨_, _, rfl, h.2.1, by rw [h.1]⟩
        · exact ih.2 b e
  have ea : acc.toList = (ks.map fun x => x.2.1).map Value.ref := by
    apply List.ext_getElem?
    intro j
    rw [List.map_map, List.getElem?_map]
    cases hj : acc.toList[j]? with
    | none =>
      have h1 := List.getElem?_eq_none_iff.mp hj
      rw [Array.length_toList, hacc.1] at h1
      rw [List.getElem?_eq_none (by omega)]; rfl
    | some v =>
      obtain ⟨en, hen, hv⟩ := hacc.2 j v (by rw [← Array.getElem?_toList]; exact hj)
      have qe := entry_at he j
      rw [hen] at qe
      cases hb : ks[j]? with
      | none => rw [hb] at qe; cases qe
      | some b =>
        rw [hb] at qe
        have e2 : en = entryOfKey (tupleKind (mixKind X.prog X.w)) b := Option.some.inj qe
        rw [hv, e2]; rfl
  obtain ⟨k1, k2⟩ := keysAre pr
  have rv : Vals ((ks.map fun x => (V.ref x.2.1, PyData.tuple (x.1.map keyPy))).map (·.1)) acc.toList := by
    rw [ea, List.map_map]
    have := vals_refs (ks.map fun x => x.2.1)
    rw [List.map_map] at this
    exact this
  have I1 : Inv X pins σ H { s with heap := h', toks := tk } := I.kept hk
  have dpk : ∀ ks : List Key, DpAll X.K H (ks.map kV) (ks.map keyPy) := fun ks => by
    induction ks with
    | nil => exact .nil
    | cons k r ih =>
      cases k with
      | inl i => exact .cons (.int i) ih
      | inr z => exact .cons (.str z) ih
  refine wpAny_bind (wpAny_newList ?_ (by rw [Array.length_toList, hacc.1]; omega))
  show wpAny _ _ _ _ _ { s with heap := h'.push (seqObj "list" acc.toList.toArray 0), toks := tk }
  refine wpAny_bind (wpAny_holding (wpAny_mono (sort_tail (X := X) (pins := pins) (σ := σ) (s := s) (Q := Q) (R := fun _ s' => EP X pins σ Q (.ref h'.objs.size) s') hu I1 rv (fun b hb => ?_) (by rw [k1]; exact so) (fun b hb => ?_) (fun p hp => q p _ hp k1 k2) (fun s' h => h) _ (by show X.A.units + 1 ≤ _; omega)) (fun _ s' h => ?_) fun _ _ h => h))
  · obtain ⟨t, k, e1, e2, e3⟩ := k2 b hb
    rw [e1, e3]; exact .tup (SqT.of e2) (dpk k)
  · obtain ⟨t, k, e1, e2, e3⟩ := k2 b hb
    rw [e3]; exact noL_keyT k
  · exact wpAny_pure ⟨_, rfl, h⟩
end
end DL
set_option Elab.async false
set_option linter.all false
set_option maxRecDepth 100000
set_option maxHeartbeats 1000000
/-! Slices, locked dicts, comprehensions with two fors, over plain data. -/
namespace DL
open PySem PySem.Spec PyProof.Rows L2
section
variable {X : Cx} {K : PySem.W.Frag}
def rSlAny (K : PySem.W.Frag) : V → Option Int → Option Int → Hp → VK → Prop := fun x lo hi H Q => rSlL K x lo hi H Q ∨ (fun x lo hi H Q => rSlA K x lo hi H Q ∨ rSlS x lo hi H Q) x lo hi H Q
theorem sl_any : L2.SlR X (rSlAny X.K) := L2.SlR.or sl_list (L2.SlR.or sl_tupA sl_str)
/-- a for over a name that may be an unlocked dict -/
def tLockA (t : TS) : TS := fun D σ H => tLock t D σ H ∨ t D σ H
theorem ps_lockA {st : Stmt} {t : TS} (h : PS X st t) : PS X st (tLockA t) := by
  refine ⟨fun pins s σ H D I q => ?_⟩
  rcases q with q | q
  · exact (ps_lock h).run pins s σ H D I q
  · exact h.run pins s σ H D I q
def tLockEA (t : TE) : TE := fun σ H Q => tLockE t σ H Q ∨ t σ H Q
theorem pe_lockA {e : Expr} {t : TE} (h : PE X e t) : PE X e (tLockEA t) := by
  refine ⟨fun pins s σ H D I q => ?_⟩
  rcases q with q | q
  · exact (pe_lock h).run pins s σ H D I q
  · exact h.run pins s σ H D I q
end
section
variable {K : PySem.W.Frag} {W : WX} {ρ ρ' : List Sl} {te ta tb tl : TE} {d x y z : D} {xs ys ds zs : List D} {t : TA} {i j : Int} {n : Nat} {o : Out}
/-! ### slices -/
def PoD (K : PySem.W.Frag) (to : TO) (ρ : List Sl) (o : Option Int) : Prop := ∀ (F0 H0 F H : Hp) (σ : L2.St), RelS K F0 H0 F H σ ρ → ∀ Q : Option Int → Hp → Prop, (∀ F' H', Gr F H F' H' → Q o H') → to σ H Q
theorem po_no : PoD K tNoPart ρ none := fun F0 H0 F H σ R Q q => q F H (.refl R.ex)
theorem po_is (h : EvD K te ρ (.int i)) : PoD K (tPart te) ρ (some i) := fun F0 H0 F H σ R Q q => h F0 H0 F H σ R _ fun v F1 H1 g1 r1 => by
  cases r1
  exact ⟨i, rfl, q F1 H1 g1⟩
/-- a piece of a list -/
def cutD {α : Type} (xs : List α) (lo hi : Option Int) : List α := (xs.drop (HT.sIx xs.length 0 lo)).take (HT.sIx xs.length xs.length hi - HT.sIx xs.length 0 lo)
theorem reps_cut {F : Hp} {vs : List V} (r : Reps K F vs ds) (lo hi : Option Int) : Reps K F (cutV vs lo hi) (cutD ds lo hi) := by
  show Reps K F ((vs.drop _).take _) _
  unfold cutD
  rw [← r.length]
  exact (r.drop _).take _
theorem evl_slL {tlo thi : TO} {lo hi : Option Int} (h : EvSL K te ρ ds) (h1 : PoD K tlo ρ lo) (h2 : PoD K thi ρ hi) : EvL K (tSl (rSlAny K) te tlo thi) ρ (cutD ds lo hi) := fun F0 H0 F H σ R Q q =>
  h F0 H0 F H σ R _ fun p vs F1 H1 g1 s1 r1 => h1 F0 H0 F1 H1 σ (R.grow g1) _ fun F2 H2 g2 => h2 F0 H0 F2 H2 σ (R.grow (g1.trans g2)) _ fun F3 H3 g3 =>
    .inl ⟨p, vs, rfl, (g2.trans g3).h.sl s1, fun l hl => q l _ F3 _ ((g1.trans (g2.trans g3)).trans (.own g3.s hl)) ((g1.trans (g2.trans g3)).h.back hl) (g3.s.back hl) upd_same (reps_cut (r1.mono (g2.trans g3).f) lo hi)⟩
theorem ev_slT {tlo thi : TO} {lo hi : Option Int} (h : EvD K te ρ (.tup ds)) (h1 : PoD K tlo ρ lo) (h2 : PoD K thi ρ hi) : EvD K (tSl (rSlAny K) te tlo thi) ρ (.tup (cutD ds lo hi)) := fun F0 H0 F H σ R Q q =>
  h F0 H0 F H σ R _ fun v F1 H1 g1 r1 => h1 F0 H0 F1 H1 σ (R.grow g1) _ fun F2 H2 g2 => h2 F0 H0 F2 H2 σ (R.grow (g1.trans g2)) _ fun F3 H3 g3 => by
    cases r1 with
    | @tup a vs _ ha ra =>
      have gA := g1.trans (g2.trans g3)
      have ha3 := (g2.trans g3).f _ _ ha
      have ra3 := ra.mono (g2.trans g3).f
      refine .inr (.inl ⟨a, vs, rfl, SqT.of (g3.s _ _ ha3), fun hw => q _ F3 H3 gA ?_, fun _ l hl => q _ (upd F3 l (.tup (cutV vs lo hi))) _ (gA.trans (.new g3.s hl)) (.tup upd_same ((reps_cut ra3 lo hi).mono (Ex.new (g3.s.back hl))))⟩)
      have e : cutD ds lo hi = ds := by
        unfold cutD
        rw [← ra.length, hw.1, hw.2, List.drop_zero, Nat.sub_zero, ra.length, List.take_length]
      rw [e]
      exact .tup ha3 ra3
theorem ev_slS {tlo thi : TO} {lo hi : Option Int} {s : PySem.Str} (h : EvD K te ρ (.str s)) (h1 : PoD K tlo ρ lo) (h2 : PoD K thi ρ hi) (hl : s.length ≤ 100000) : EvD K (tSl (rSlAny K) te tlo thi) ρ (.str (cutS s lo hi)) := fun F0 H0 F H σ R Q q =>
  h F0 H0 F H σ R _ fun v F1 H1 g1 r1 => h1 F0 H0 F1 H1 σ (R.grow g1) _ fun F2 H2 g2 => h2 F0 H0 F2 H2 σ (R.grow (g1.trans g2)) _ fun F3 H3 g3 => by
    cases r1
    exact .inr (.inr ⟨s, rfl, Nat.le_trans hl (by decide), q _ F3 H3 (g1.trans (g2.trans g3)) (.str _)⟩)
/-! ### locked dicts -/
/-- the dict at a is locked, where it stands -/
def lk (a : Addr) (u l : HO) (H : Hp) : Hp := fun b => if b = a then (match H b with | some _ => some l | none => none) else H b
theorem lk_ne {a b : Addr} {u l : HO} {H : Hp} (e : b ≠ a) : lk a u l H b = H b := if_neg e
theorem lk_at {a : Addr} {u l o : HO} {H : Hp} (h : H a = some o) : lk a u l H a = some l := by
  unfold lk; rw [if_pos rfl, h]
theorem lk_no {a : Addr} {u l : HO} {H : Hp} (h : H a = none) : lk a u l H a = none := by
  unfold lk; rw [if_pos rfl, h]
theorem lk_upd {a : Addr} {u l o : HO} {H : Hp} (h : H a = some o) : lk a u l H = upd H a l := by
  funext b
  by_cases e : b = a
  · subst e; rw [lk_at h, upd_same]
  · rw [lk_ne e, upd_ne e]
theorem lk_ex {a : Addr} {u l : HO} {F H : Hp} (e : Ex F H) : Ex (lk a u l F) (lk a u l H) := fun b o h => by
  by_cases z : b = a
  · subst z
    cases h1 : F b with
    | none => rw [lk_no h1] at h; cases h
    | some o1 => rw [lk_at h1] at h; cases h; exact lk_at (e b o1 h1)
  · rw [lk_ne z] at h ⊢; exact e b o h
theorem lk_tol {a : Addr} {u l : HO} {F : Hp} (hu : ∀ o, F a = some o → str1 l = str1 o) : Tol F (lk a u l F) := fun b o h => by
  by_cases z : b = a
  · subst z; exact ⟨l, lk_at h, hu o h⟩
  · exact ⟨o, by rw [lk_ne z]; exact h, rfl⟩
theorem own_lk {a p : Addr} {u l : HO} {H0 F H : Hp} {x : Sl} (hne : p ≠ a) (hu : ∀ o, F a = some o → str1 l = str1 o) (h : OwnR K H0 F H p x) : OwnR K (lk a u l H0) (lk a u l F) (lk a u l H) p x := by
  have t := lk_tol (u := u) hu
  cases x with
  | no => exact h
  | d x => exact h
  | ol xs => obtain ⟨h1, h2, vs, h3, h4⟩ := h; exact ⟨by rw [lk_ne hne]; exact h1, by rw [lk_ne hne]; exact h2, vs, by rw [lk_ne hne]; exact h3, h4.tol t⟩
  | ok xs => obtain ⟨h1, h2, vs, h3, n, h4⟩ := h; exact ⟨by rw [lk_ne hne]; exact h1, by rw [lk_ne hne]; exact h2, vs, by rw [lk_ne hne]; exact h3, n, h4.tol t⟩
  | ot xs => obtain ⟨h1, h2, vs, h3, n, h4⟩ := h; exact ⟨by rw [lk_ne hne]; exact h1, by rw [lk_ne hne]; exact h2, vs, by rw [lk_ne hne]; exact h3, n, h4.tol t⟩
/-- the whole state with the frozen dict at a locked (or unlocked) -/
theorem RelS.lk {F0 H0 F H : Hp} {σ : L2.St} (R : RelS K F0 H0 F H σ ρ) {a : Addr} {u l : HO} (ha : F a = some u) (hs : str1 l = str1 u) (hu : tupO u = false) : RelS K (DL.lk a u l F0) (DL.lk a u l H0) (DL.lk a u l F) (DL.lk a u l H) σ ρ := by
  have hul : ∀ o, F a = some o → str1 l = str1 o := fun o h => by rw [ha] at h; cases h; exact hs
  refine ⟨⟨lk_ex R.gr.f, lk_ex R.gr.h, lk_ex R.gr.s, fun p o h1 t h2 => ?_⟩, R.len, fun i x v h1 h2 => ?_, R.ne⟩
  · by_cases z : p = a
    · subst z
      exfalso
      cases e0 : F0 p with
      | some o0 => rw [lk_at e0] at h2; cases h2
      | none =>
        cases e1 : H0 p with
        | none => rw [lk_no e1] at h1; cases h1
        | some o1 =>
          have hH : H p = some u := R.ex _ _ ha
          have := R.gr.h _ _ e1
          rw [hH] at this; cases this
          have := R.gr.n p _ e1 hu e0
          rw [ha] at this; cases this
    · rw [lk_ne z] at h1 h2 ⊢; exact R.gr.n p o h1 t h2
  · have q := R.sl i x v h1 h2
    by_cases ox : x.own = true
    · obtain ⟨p, rfl, hp⟩ := (DL.SlR.own ox).mp q
      refine (DL.SlR.own ox).mpr ⟨p, rfl, own_lk (fun z => ?_) hul hp⟩
      subst z
      rw [hp.tells.2.1] at ha; cases ha
    · cases x with
      | no => trivial
      | d x => obtain ⟨v', e, r⟩ := q; exact ⟨v', e, r.tol (lk_tol hul)⟩
      | ol _ => exact absurd rfl ox
      | ok _ => exact absurd rfl ox
      | ot _ => exact absurd rfl ox
/-- locked and unlocked again -/
theorem lk_back {a : Addr} {u l u' l' : HO} {F0 : Hp} (h : ∀ o, F0 a = some o → o = l') : DL.lk a u' l' (DL.lk a u l F0) = F0 := by
  funext b
  by_cases z : b = a
  · subst z
    cases e : F0 b with
    | none => rw [lk_no (lk_no e)]
    | some o => rw [lk_at (lk_at e), h o e]
  · rw [lk_ne z, lk_ne z]
theorem mut_dict {u : HO} (h : (∃ k, u = .dK k) ∨ ∃ k, u = .dT k) : Mut (some u) := by
  rcases h with ⟨k, rfl⟩ | ⟨k, rfl⟩ <;> trivial
/-- what a slot's dict is, and its keys -/
def KeysD (u : D) (ds : List D) : Prop := (∃ ks es, u = .dk ks es ∧ ds = ks.map kD) ∨ ∃ ks es, u = .dt ks es ∧ ds = ks.map fun k => D.tup (k.map kD)
def Locked (F : Hp) (a : Addr) (ds : List D) : Prop := ∃ ob, (∃ ws : List (Key × V), F a = some (.frz ob (.dK ws)) ∧ ds = ws.map fun kv => kD kv.1) ∨ ∃ ws : List (List Key × V), F a = some (.frz ob (.dT ws)) ∧ ds = ws.map fun kv => D.tup (kv.1.map kD)
theorem wi_locked {F H : Hp} {σ : L2.St} {s : Nat} {a : Addr} (e : Ex F H) (h1 : σ[s]? = some (some (.ref a))) (h : Locked F a ds) (R' : It → Hp → Prop) (hR : ∀ J A F' H', Gr F H F' H' → Src K J ds A → A F' → R' J H') : iSeq K (tVar s) σ H R' := by
  obtain ⟨ob, ⟨ws, h2, rfl⟩ | ⟨ws, h2, rfl⟩⟩ := h
  · exact .inr (.inr ⟨_, h1, a, ob, rfl, .inl ⟨ws, e _ _ h2, hR _ _ F H (.refl e) src_keys h2⟩⟩)
  · exact .inr (.inr ⟨_, h1, a, ob, rfl, .inr ⟨ws, e _ _ h2, hR _ _ F H (.refl e) src_keysT h2⟩⟩)
theorem map_zip_fst {α β γ : Type} (f : α → γ) : ∀ {l : List α} {m : List β}, l.length = m.length → (l.zip m).map (fun p => f p.1) = l.map f
  | [], _, _ => rfl
  | a :: l, [], h => by cases h
  | a :: l, b :: m, h => by rw [List.zip_cons_cons, List.map_cons, List.map_cons, map_zip_fst f (by simpa using h)]
/-- a slot's dict is locked already, or it can be locked -/
theorem dict_state {F : Hp} {v : V} {u0 : D} (r : Rep K F v u0) (h : KeysD u0 ds) : ∃ a, v = .ref a ∧ (Locked F a ds ∨ ∃ u, F a = some u ∧ Mut (some u) ∧ tupO u = false ∧ (∀ ob, str1 (.frz ob u) = str1 u) ∧ (∀ ob, ∀ F' : Hp, F' a = some (.frz ob u) → Locked F' a ds)) := by
  rcases h with ⟨ks, es, rfl, rfl⟩ | ⟨ks, es, rfl, rfl⟩
  · cases r with
    | @dk a o _ vs _ h1 hs l rs =>
      refine ⟨a, rfl, ?_⟩
      unfold str1 at hs
      split at hs
      · cases hs; exact .inl ⟨_, .inl ⟨_, h1, (map_zip_fst kD l).symm⟩⟩
      · cases hs
      · subst hs; exact .inr ⟨_, h1, trivial, rfl, fun _ => rfl, fun ob F' h' => ⟨ob, .inl ⟨_, h', (map_zip_fst kD l).symm⟩⟩⟩
  · cases r with
    | @dt a o _ vs _ h1 hs l rs =>
      refine ⟨a, rfl, ?_⟩
      unfold str1 at hs
      split at hs
      · cases hs
      · cases hs; exact .inl ⟨_, .inr ⟨_, h1, (map_zip_fst (fun k => D.tup (List.map kD k)) l).symm⟩⟩
      · subst hs; exact .inr ⟨_, h1, trivial, rfl, fun _ => rfl, fun ob F' h' => ⟨ob, .inr ⟨_, h', (map_zip_fst (fun k => D.tup (List.map kD k)) l).symm⟩⟩⟩
theorem ex_unlk {a : Addr} {u l : HO} {F F2 : Hp} (hl : F a = some u) (e : Ex (DL.lk a u l F) F2) : Ex F (upd F2 a u) := fun b o h => by
  by_cases z : b = a
  · subst z; rw [hl] at h; cases h; exact upd_same
  · rw [upd_ne z]; exact e b o (by rw [lk_ne z]; exact h)
/-- a state behind the lock, unlocked -/
theorem RelS.unlk {F0 H0 F H F2 H2 : Hp} {σ σ' : L2.St} {ρ0 : List Sl} (R : RelS K F0 H0 F H σ ρ0) {a : Addr} {u : HO} {ob : Obj} (ha : F a = some u) (hs : str1 (.frz ob u) = str1 u) (hu : tupO u = false) (R2 : RelS K (DL.lk a u (.frz ob u) F0) (DL.lk a u (.frz ob u) H0) F2 H2 σ' ρ) (e : F2 a = some (.frz ob u)) :
    RelS K F0 H0 (upd F2 a u) (upd H2 a u) σ' ρ := by
  have R3 := R2.lk (u := .frz ob u) (l := u) e hs.symm rfl
  have hH : H a = some u := R.ex _ _ ha
  have f0 : ∀ o, F0 a = some o → o = u := fun o h => by
    have := R.gr.f _ _ h
    rw [ha] at this; exact (Option.some.inj this).symm
  have h0 : ∀ o, H0 a = some o → o = u := fun o h => by
    have := R.gr.h _ _ h
    rw [hH] at this; exact (Option.some.inj this).symm
  rw [lk_back f0, lk_back h0, lk_upd e, lk_upd (R2.ex _ _ e)] at R3
  exact R3
/-- a loop over the keys of the dict in slot s -/
theorem sv_forKeys {s : Nat} {g : TG} {tb : TS} {u0 : D} (hs : ρ[s]? = some (.d u0)) (hd : KeysD u0 ds) (hr : Run (Turn1 K W g tb) ds ρ o) (hne : ∀ C fs ρ', o ≠ .er C fs ρ') : SvD K W (tLockA (tFor (iSeq K (tVar s)) g tb)) ρ o := fun E F0 H0 F H σ R p => by
  obtain ⟨v, h1, rv⟩ := R.get hs
  obtain ⟨a, rfl, hk | ⟨u, ha, hm, hu, hst, hL⟩⟩ := dict_state rv hd
  · exact .inr (for_at R (fun R' hR => wi_locked R.ex h1 hk R' hR) hr p)
  · refine .inl ⟨a, u, R.ex _ _ ha, hm, fun ob => ?_⟩
    have hH : H a = some u := R.ex _ _ ha
    have R1 := R.lk (u := u) (l := .frz ob u) ha (hst ob) hu
    have eF : DL.lk a u (.frz ob u) F a = some (.frz ob u) := lk_at ha
    have eH : DL.lk a u (.frz ob u) H = upd H a (.frz ob u) := lk_upd hH
    rw [← eH]
    refine for_at R1 (fun R' hR => wi_locked R1.ex h1 (hL ob _ eF) R' hR) hr ?_
    have back : ∀ {F2 H2 : Hp} {σ' : L2.St} {ρ'' : List Sl}, Ex (DL.lk a u (.frz ob u) F) F2 → RelS K (DL.lk a u (.frz ob u) F0) (DL.lk a u (.frz ob u) H0) F2 H2 σ' ρ'' → H2 a = some (.frz ob u) ∧ Ex F (upd F2 a u) ∧ RelS K F0 H0 (upd F2 a u) (upd H2 a u) σ' ρ'' := fun {F2 H2 σ' ρ''} e R2 =>
      ⟨R2.ex _ _ (e _ _ eF), ex_unlk ha e, R.unlk ha (hst ob) hu R2 (e _ _ eF)⟩
    cases o with
    | nx ρ' => exact fun σ' F2 H2 e R2 => let ⟨x1, x2, x3⟩ := back e R2; ⟨x1, p σ' _ _ x2 x3⟩
    | bk ρ' => exact fun σ' F2 H2 e R2 => let ⟨x1, x2, x3⟩ := back e R2; ⟨x1, p σ' _ _ x2 x3⟩
    | ct ρ' => exact fun σ' F2 H2 e R2 => let ⟨x1, x2, x3⟩ := back e R2; ⟨x1, p σ' _ _ x2 x3⟩
    | rt d =>
      refine fun v' F2 H2 e g2 r2 => ?_
      have Rr : RelS K (DL.lk a u (.frz ob u) F0) (DL.lk a u (.frz ob u) H0) F2 H2 [some v'] [.d d] := ⟨g2, rfl, fun i x o h3 h4 => by
        cases i with
        | zero => simp at h3 h4; subst h3; subst h4; exact ⟨v', rfl, r2⟩
        | succ i => simp at h3, fun i j x y q h3 _ h5 _ _ _ => by
        cases i with
        | zero => simp at h3; subst h3; cases h5
        | succ i => simp at h3⟩
      obtain ⟨x1, x2, x3⟩ := back e Rr
      obtain ⟨v2, h3, h4⟩ := x3.get (i := 0) (x := d) rfl
      simp at h3; subst h3
      exact ⟨x1, p v' _ _ x2 x3.gr h4⟩
    | er C fs ρ' => exact absurd rfl (hne C fs ρ')
end
end DL
set_option Elab.async false
set_option linter.all false
set_option maxRecDepth 100000
set_option maxHeartbeats 1000000
/-! Comprehensions over dicts and with two fors; sorted, list of dicts; order of data. -/
namespace DL
open PySem PySem.Spec PyProof.Rows L2
section
variable {K : PySem.W.Frag} {W : WX} {ρ ρ' : List Sl} {te ta tb tl : TE} {d x y z : D} {xs ys ds zs : List D} {t : TA} {i j : Int} {n : Nat} {o : Out}
/-- a comprehension over the keys of the dict in slot s -/
theorem evl_lcKeys {s : Nat} {g : TG} {tt : TT} {vs : List Nat} {f : D → Option D} {u0 : D} (hs : ρ[s]? = some (.d u0)) (hd : KeysD u0 ds) (hf : ∀ d ∈ ds, Cmp1 K g tt te vs (wipeS ρ vs) d (f d)) (hl : ds.length ≤ 16777215) :
    EvL K (tLockEA (tLc (iSeq K (tVar s)) g tt te vs)) ρ (ds.filterMap f) := fun F0 H0 F H σ R Q q => by
  obtain ⟨v, h1, rv⟩ := R.get hs
  obtain ⟨a, rfl, hk | ⟨u, ha, hm, hu, hst, hL⟩⟩ := dict_state rv hd
  · exact .inr (lc_at R (fun R' hR => wi_locked R.ex h1 hk R' hR) hf hl q)
  · refine .inl ⟨a, u, R.ex _ _ ha, hm, fun ob => ?_⟩
    have hH : H a = some u := R.ex _ _ ha
    have R1 := R.lk (u := u) (l := .frz ob u) ha (hst ob) hu
    have eF : DL.lk a u (.frz ob u) F a = some (.frz ob u) := lk_at ha
    have eH : DL.lk a u (.frz ob u) H = upd H a (.frz ob u) := lk_upd hH
    rw [← eH]
    refine lc_at R1 (fun R' hR => wi_locked R1.ex h1 (hL ob _ eF) R' hR) hf hl fun p ws F2 H2 g2 hp hf2 h2 r2 => ?_
    have e2 : F2 a = some (.frz ob u) := g2.f _ _ eF
    have pa : p ≠ a := fun z => by
      subst z
      rw [e2] at hf2; cases hf2
    have hpH : H p = none := by rw [eH, upd_ne pa] at hp; exact hp
    have R2 : RelS K (DL.lk a u (.frz ob u) F0) (DL.lk a u (.frz ob u) H0) F2 H2 σ ρ := R1.grow g2
    have R3 := R.unlk ha (hst ob) hu R2 e2
    have tol : Tol F2 (upd F2 a u) := fun b o h => by
      by_cases z : b = a
      · subst z; rw [e2] at h; cases h; exact ⟨u, upd_same, (hst ob).symm⟩
      · exact ⟨o, by rw [upd_ne z]; exact h, rfl⟩
    refine ⟨g2.h _ _ (by rw [eH]; exact upd_same), q p ws (upd F2 a u) (upd H2 a u) ⟨ex_unlk ha g2.f, ?_, ?_, ?_⟩ hpH (by rw [upd_ne pa]; exact hf2) (by rw [upd_ne pa]; exact h2) (r2.tol tol)⟩
    · exact ex_unlk (l := .frz ob u) hH g2.h
    · exact g2.s.updB
    · intro b o h1 t h2
      by_cases z : b = a
      · subst z; rw [ha] at h2; cases h2
      · rw [upd_ne z]
        exact g2.n b o (by rw [lk_ne z]; exact h1) t (by rw [lk_ne z]; exact h2)
/-- one turn of the inner for of a comprehension with two: rows for the items of the outer one -/
def Cmp2 (K : PySem.W.Frag) (g : TG) (tt : TT) (wi1 : TI) (g1 : TG) (tt1 : TT) (te : TE) (vs vs1 : List Nat) (ρ : List Sl) (d : D) (r : List D) : Prop :=
  ∃ is ρ1 b, TgD K g is d ρ ρ1 ∧ (∀ j ∈ is, j ∈ vs) ∧ TvD K tt ρ1 b ∧ (b = false → r = []) ∧
    (b = true → ∃ (es : List D) (f : D → Option D), WiD K wi1 ρ1 es ∧ r = es.filterMap f ∧ (∀ j ∈ vs1, j ∈ vs) ∧ ∀ e ∈ es, Cmp1 K g1 tt1 te vs1 (wipeS ρ1 vs1) e (f e))
theorem flatMap_take {α β : Type} {f : α → List β} {l : List α} {i : Nat} {a : α} (h : l[i]? = some a) : (l.take (i + 1)).flatMap f = (l.take i).flatMap f ++ f a := by
  rw [List.take_add_one, List.flatMap_append, h]
  simp
theorem len_flatMap_take {α β : Type} (f : α → List β) (l : List α) (i : Nat) : ((l.take i).flatMap f).length ≤ (l.flatMap f).length := by
  conv => rhs; rw [← List.take_append_drop i l]
  rw [List.flatMap_append, List.length_append]
  omega
theorem wipeS_own {ρ : List Sl} : ∀ (vs : List Nat) {j : Nat} {y : Sl}, (wipeS ρ vs)[j]? = some y → y.own = true → j ∉ vs ∧ ρ[j]? = some y
  | [], j, y, h, o => ⟨by simp, h⟩
  | v :: vs, j, y, h, o => by
    unfold wipeS at h
    rcases get_set h with ⟨e, rfl⟩ | ⟨e, h⟩
    · cases o
    · obtain ⟨h1, h2⟩ := wipeS_own vs h o
      exact ⟨by rw [List.mem_cons]; rintro (z | z); exact e z.symm; exact h1 z, h2⟩
theorem ev_lc2 {wi wi1 : TI} {g g1 : TG} {tt tt1 : TT} {vs vs1 : List Nat} {f : D → List D} (hw : WiD K wi ρ ds) (hs : ∀ d ∈ ds, Cmp2 K g tt wi1 g1 tt1 te vs vs1 (wipeS ρ vs) d (f d)) (hl : (ds.flatMap f).length ≤ 16777215) :
    EvL K (tLc2 wi g tt wi1 g1 tt1 te vs vs1) ρ (ds.flatMap f) := fun F0 H0 F H σ R Q q =>
  hw F0 H0 F H σ R _ fun J A F1 H1 gr1 src a1 => fun Dl hD => by
    have hD0 : H Dl = none := gr1.h.back hD
    have hDF1 : F1 Dl = none := gr1.s.back hD
    have hD00 : H0 Dl = none := R.gr.h.back hD0
    have Rw : RelS K F0 H0 F1 H1 (L2.wipe σ vs) (wipeS ρ vs) := (R.grow gr1).wipe vs
    have fr := Rw.fresh hD
    refine ⟨fun i m H' => ∃ F' acc, m = ds.length - i ∧ i ≤ ds.length ∧ Gr F H F' H' ∧ RelS K F0 H0 F' H' (L2.wipe σ vs) (wipeS ρ vs) ∧ Ex F1 F' ∧ F' Dl = none ∧ H' Dl = some (.lst acc) ∧ Reps K F' acc ((ds.take i).flatMap f),
      ⟨ds.length, F1, [], rfl, Nat.zero_le _, gr1.side hD0 hDF1, Rw.side hD00 hDF1 fr, Ex.refl F1, hDF1, upd_same, .nil⟩, ?_⟩
    rintro i m H' ⟨F', acc, rfl, hi, g', R', ex, hDF, hDH, ra⟩
    have a' := src.keep _ _ a1 ex
    by_cases hlt : i < ds.length
    · refine .inr ⟨src.go i F' H' hlt a' R'.ex, fun H2 => ∃ F2 acc, Gr F H F2 H2 ∧ RelS K F0 H0 F2 H2 (L2.wipe σ vs) (wipeS ρ vs) ∧ Ex F1 F2 ∧ F2 Dl = none ∧ H2 Dl = some (.lst acc) ∧ Reps K F2 acc ((ds.take (i + 1)).flatMap f),
        fun H2 ⟨F2, acc, x1, x2, x3, x4, x5, x6⟩ => ⟨ds.length - (i + 1), by omega, F2, acc, rfl, hlt, x1, x2, x3, x4, x5, x6⟩, fun x H2 y => ?_⟩
      obtain ⟨d, hd⟩ : ∃ d, ds[i]? = some d := ⟨ds[i], List.getElem?_eq_getElem hlt⟩
      obtain ⟨F2, g2, rx⟩ := src.yld i F' H' x H2 d hd a' R'.ex y
      obtain ⟨is, ρ1, b, tg, sub, tv, hf, ht⟩ := hs d (List.mem_of_getElem? hd)
      refine tg.2 F0 H0 F2 H2 _ x (R'.grow g2) rx _ fun σ3 R3 l3 k3 => ⟨?_, ?_⟩
      · rw [wipe_same l3 k3 sub, wipe_wipe]
      · refine tv F0 H0 F2 H2 σ3 R3 _ fun F3 H3 g3 => ?_
        have gA := (g'.trans g2).trans g3
        have RA := (R'.grow g2).grow g3
        have nD : F3 Dl = none := g3.n _ _ (g2.h _ _ hDH) rfl (g2.n _ _ hDH rfl hDF)
        have hD3 := g3.h _ _ (g2.h _ _ hDH)
        have ra3 := (ra.mono g2.f).mono g3.f
        have ex3 := (ex.trans g2.f).trans g3.f
        cases b with
        | false =>
          show ∃ F2 acc, _
          refine ⟨F3, acc, gA, RA, ex3, nD, hD3, ?_⟩
          rw [flatMap_take hd, hf rfl, List.append_nil]
          exact ra3
        | true =>
          obtain ⟨es, fe, hw1, er, sub1, hi1⟩ := ht rfl
          have R3' := R3.grow g3
          show wi1 σ3 H3 _
          refine hw1 F0 H0 F3 H3 σ3 R3' _ fun J1 A1 F4 H4 g4 src1 a4 => ?_
          have R4 := R3'.grow g4
          have R4w := R4.wipe vs1
          have gB := gA.trans g4
          have nD4 : F4 Dl = none := g4.n _ _ hD3 rfl nD
          have hD4 : H4 Dl = some (.lst acc) := g4.h _ _ hD3
          have ra4 := ra3.mono g4.f
          have RB := RA.grow g4
          have fr4 : ∀ (j : Nat) (y : Sl), (wipeS ρ1 vs1)[j]? = some y → y.own = true → (L2.wipe σ3 vs1)[j]? ≠ some (some (.ref Dl)) := fun j y h1 h2 h3 => by
            have q0 := (wipe_some h3)
            obtain ⟨z1, z2⟩ := wipeS_own vs1 h1 h2
            obtain ⟨nj, e1⟩ := tg.1 j y z2 h2
            exact fr j y e1 h2 ((k3 j nj).symm.trans q0.1)
          refine ⟨fun k m H' => ∃ F' acc', m = es.length - k ∧ k ≤ es.length ∧ Gr F H F' H' ∧ RelS K F0 H0 F' H' (L2.wipe σ vs) (wipeS ρ vs) ∧ RelS K F0 H0 F' H' (L2.wipe σ3 vs1) (wipeS ρ1 vs1) ∧ Ex F4 F' ∧ F' Dl = none ∧ H' Dl = some (.lst acc') ∧ Reps K F' acc' ((ds.take i).flatMap f ++ (es.take k).filterMap fe),
            ⟨es.length, F4, acc, rfl, Nat.zero_le _, gB, RB, R4w, Ex.refl F4, nD4, hD4, by simpa using ra4⟩, ?_⟩
          rintro k m H5 ⟨F5, acc5, rfl, hk, g5, R5, R5w, ex5, hDF5, hDH5, ra5⟩
          have a5 := src1.keep _ _ a4 ex5
          by_cases hlt1 : k < es.length
          · refine .inr ⟨src1.go k F5 H5 hlt1 a5 R5w.ex, fun H' => ∃ F' acc', Gr F H F' H' ∧ RelS K F0 H0 F' H' (L2.wipe σ vs) (wipeS ρ vs) ∧ RelS K F0 H0 F' H' (L2.wipe σ3 vs1) (wipeS ρ1 vs1) ∧ Ex F4 F' ∧ F' Dl = none ∧ H' Dl = some (.lst acc') ∧ Reps K F' acc' ((ds.take i).flatMap f ++ (es.take (k + 1)).filterMap fe),
              fun H' ⟨F', acc', x1, x2, x3, x4, x5, x6, x7⟩ => ⟨es.length - (k + 1), by omega, F', acc', rfl, hlt1, x1, x2, x3, x4, x5, x6, x7⟩, fun x6 H6 y6 => ?_⟩
            obtain ⟨e, he⟩ : ∃ e, es[k]? = some e := ⟨es[k], List.getElem?_eq_getElem hlt1⟩
            obtain ⟨F6, g6, rx6⟩ := src1.yld k F5 H5 x6 H6 e he a5 R5w.ex y6
            obtain ⟨js, ρ2, b2, tg2, sub2, tv2, ht2, hf2⟩ := hi1 e (List.mem_of_getElem? he)
            refine tg2.2 F0 H0 F6 H6 _ x6 (R5w.grow g6) rx6 _ fun σ7 R7 l7 k7 => ⟨?_, ?_⟩
            · rw [wipe_same l7 k7 sub2, wipe_wipe]
            · refine tv2 F0 H0 F6 H6 σ7 R7 _ fun F7 H7 g7 => ?_
              have gC := (g5.trans g6).trans g7
              have RC := (R5.grow g6).grow g7
              have RCw := (R5w.grow g6).grow g7
              have nD7 : F7 Dl = none := g7.n _ _ (g6.h _ _ hDH5) rfl (g6.n _ _ hDH5 rfl hDF5)
              have hD7 := g7.h _ _ (g6.h _ _ hDH5)
              have ra7 := (ra5.mono g6.f).mono g7.f
              have ex7 := (ex5.trans g6.f).trans g7.f
              cases b2 with
              | false =>
                show ∃ F' acc', _
                refine ⟨F7, acc5, gC, RC, RCw, ex7, nD7, hD7, ?_⟩
                rw [filterMap_take he, hf2 rfl]
                simpa using ra7
              | true =>
                obtain ⟨yv, ey, hy⟩ := ht2 rfl
                show te σ7 H7 _
                refine hy F0 H0 F7 H7 σ7 (R7.grow g7) _ fun v8 F8 H8 g8 r8 => ?_
                have nD8 : F8 Dl = none := g8.n _ _ hD7 rfl nD7
                have hD8 : H8 Dl = some (.lst acc5) := g8.h _ _ hD7
                have ra8 := ra7.mono g8.f
                refine ⟨acc5, hD8, ?_, F8, acc5 ++ [v8], (gC.trans g8).side hD0 nD8, (RC.grow g8).side hD00 nD8 fr, (RCw.grow g8).side hD00 nD8 fr4, ex7.trans g8.f, nD8, upd_same, ?_⟩
                · rw [ra8.length, sizeLine_eq, List.length_append]
                  have l1 := len_flatMap_take f ds (i + 1)
                  rw [flatMap_take hd, List.length_append, er] at l1
                  have l2 : ((es.take (k + 1)).filterMap fe).length ≤ (es.filterMap fe).length := by
                    conv => rhs; rw [← List.take_append_drop (k + 1) es]
                    rw [List.filterMap_append, List.length_append]; omega
                  rw [filterMap_take he, List.length_append] at l2
                  omega
                · rw [filterMap_take he, ey, ← List.append_assoc]
                  exact ra8.append (.cons r8 .nil)
          · have ek : k = es.length := by omega
            subst ek
            refine .inl ⟨src1.stop _ _ a5 R5w.ex, F5, acc5, g5, R5, (ex3.trans g4.f).trans ex5, hDF5, hDH5, ?_⟩
            rw [flatMap_take hd, er]
            rw [List.take_length] at ra5
            exact ra5
    · have e : i = ds.length := by omega
      subst e
      refine .inl ⟨src.stop _ _ a' R'.ex, q Dl acc F' H' g' hD0 hDF hDH ?_⟩
      rw [List.take_length] at ra
      exact ra
end
end DL
set_option Elab.async false
set_option linter.all false
set_option maxRecDepth 100000
set_option maxHeartbeats 1000000
/-! Small rules, folds of loops, isinstance. -/
namespace DL
open PySem PySem.Spec PyProof.Rows L2
section
variable {K : PySem.W.Frag} {W : WX} {ρ ρ' ρ1 : List Sl} {te ta tb tl : TE} {d x y z : D} {xs ys ds zs : List D} {t u : TS} {i j : Int} {n : Nat} {o : Out} {tt : TT}
theorem RelS.wipeK {F0 H0 F H : Hp} {σ : L2.St} {ρ : List Sl} (R : RelS K F0 H0 F H σ ρ) : ∀ is : List Nat, RelS K F0 H0 F H σ (wipeS ρ is)
  | [] => R
  | i :: is => by
    have R1 := R.wipeK is
    unfold wipeS
    cases e : σ[i]? with
    | none =>
      rw [List.set_eq_of_length_le (by rw [← R1.len]; exact List.getElem?_eq_none_iff.mp e)]
      exact R1
    | some v =>
      have R2 := R1.forget i v
      rw [set_same e] at R2
      exact R2
/-- slots forgotten at the end -/
theorem sv_wipe (is : List Nat) (h : SvD K W t ρ (.nx ρ1)) : SvD K W t ρ (.nx (wipeS ρ1 is)) := fun E F0 H0 F H σ R p =>
  h E F0 H0 F H σ R fun σ' F' H' e R' => p σ' F' H' e (R'.wipeK is)
theorem sv_nx (h : SvD K W t ρ (.nx ρ1)) (is : List Nat) (e : wipeS ρ1 is = ρ') : SvD K W t ρ (.nx ρ') := e ▸ sv_wipe is h
/-- a loop that goes through, its state a fold -/
theorem run_fold {S : Type} {step : D → List Sl → Out → Prop} (enc : S → List Sl) (f : S → D → S) (I : S → Prop) : ∀ (ds : List D) (s : S), (∀ s d, d ∈ ds → I s → step d (enc s) (.nx (enc (f s d))) ∧ I (f s d)) → I s → Run step ds (enc s) (.nx (enc (ds.foldl f s)))
  | [], s, _, _ => .nil
  | d :: ds, s, h, hI => .go (h s d List.mem_cons_self hI).1 (run_fold enc f I ds (f s d) (fun s' d' hd hs => h s' d' (List.mem_cons_of_mem _ hd) hs) (h s d List.mem_cons_self hI).2)
/-- .. by the turn's number -/
theorem run_steps {step : D → List Sl → Out → Prop} (R : Nat → List Sl) (ds : List D) : ∀ (k : Nat), k ≤ ds.length → (∀ i d, k ≤ i → ds[i]? = some d → step d (R i) (.nx (R (i + 1)))) → Run step (ds.drop k) (R k) (.nx (R ds.length)) := by
  intro k hk h
  generalize hm : ds.length - k = m
  induction m generalizing k with
  | zero =>
    have e : k = ds.length := by omega
    subst e
    rw [List.drop_length]; exact .nil
  | succ m ih =>
    have hlt : k < ds.length := by omega
    rw [List.drop_eq_getElem_cons hlt]
    exact .go (h k _ (Nat.le_refl _) (List.getElem?_eq_getElem hlt)) (ih (k + 1) hlt (fun i d hi hd => h i d (by omega) hd) (by omega))
theorem run_all {step : D → List Sl → Out → Prop} (R : Nat → List Sl) (ds : List D) (h : ∀ i d, ds[i]? = some d → step d (R i) (.nx (R (i + 1)))) : Run step ds (R 0) (.nx (R ds.length)) := by
  have := run_steps R ds 0 (Nat.zero_le _) fun i d _ hd => h i d hd
  rwa [List.drop_zero] at this
/-- the built-in class is known -/
def D.tyOk : D → Bool
  | .non => true | .bl _ => true | .int _ => true | .str _ => true | .lst _ => true | .tup _ => true | .dk _ _ => true
  | _ => false
theorem tyx_of {F H : Hp} {v : V} (e : Ex F H) (r : Rep K F v d) (h : d.tyOk = true) : TyX K H v (.type d.tyN) := by
  cases r with
  | non => exact .base .non
  | bl b => exact .base (.bl b)
  | int i => exact .base (.int i)
  | str z => exact .base (.str z)
  | ty n => cases h
  | cls C => cases h
  | lst ha _ => exact .base (.lst (e _ _ ha))
  | scr _ => cases h
  | tup ha _ => exact .base (.tup (e _ _ ha))
  | dk ha hs _ _ =>
    have h1 := e _ _ ha
    unfold str1 at hs
    split at hs
    · exact .fDict h1
    · cases hs
    · subst hs; exact .base (.dK h1)
  | dt _ _ _ _ => cases h
  | ins _ _ _ => cases h
theorem ev_isi {nm : String} {b : Bool} (h : EvD K ta ρ d) (hd : d.tyOk = true) (hb : kitB d.tyN nm = some b) : EvD K (tCB (rIsi K) (tCons ta (tCons (tC (.ty nm)) tNil))) ρ (.bl b) := fun F0 H0 F H σ R Q q =>
  h F0 H0 F H σ R _ fun v F1 H1 g1 r1 => ⟨v, .ty nm, .type d.tyN, .type nm, b, rfl, .ty nm, tyx_of g1.s r1 hd, kit_ty hb, q _ F1 H1 g1 (.bl b)⟩
theorem mul_ok {i j : Int} (a b : Nat) (ha : i.natAbs < 2 ^ a) (hb : j.natAbs < 2 ^ b) (h : a + b ≤ 134217728) : CMulX i j := mulx_ok ha hb h
/-- bounds by numbers below 2 ^ 64 -/
theorem mul_s {i j : Int} (h1 : -18446744073709551616 < i ∧ i < 18446744073709551616) (h2 : -18446744073709551616 < j ∧ j < 18446744073709551616) : CMulX i j := mulx_ok (a := 64) (b := 64) (by omega) (by omega) (by omega)
end
/-! ### what isinstance answers -/
def isInt : D → Bool
  | .int _ => true
  | _ => false
def isBl : D → Bool
  | .bl _ => true
  | _ => false
def isTup : D → Bool
  | .tup _ => true
  | _ => false
def isLst : D → Bool
  | .lst _ => true
  | _ => false
def isStr : D → Bool
  | .str _ => true
  | _ => false
theorem kit_int {d : D} (h : d.tyOk = true) : kitB d.tyN "int" = some (isInt d || isBl d) := by
  cases d with
  | non  => exact (by decide +kernel : kitB "NoneType" "int" = some false)
  | bl _ => exact (by decide +kernel : kitB "bool" "int" = some true)
  | int _ => exact (by decide +kernel : kitB "int" "int" = some true)
  | str _ => exact (by decide +kernel : kitB "str" "int" = some false)
  | lst _ => exact (by decide +kernel : kitB "list" "int" = some false)
  | tup _ => exact (by decide +kernel : kitB "tuple" "int" = some false)
  | dk _ _ => exact (by decide +kernel : kitB "dict" "int" = some false)
  | dt _ _ => cases h
  | ins _ _ _ => cases h
  | scr _ => cases h
  | ty _ => cases h
  | cls _ => cases h
theorem kit_bool {d : D} (h : d.tyOk = true) : kitB d.tyN "bool" = some (isBl d) := by
  cases d with
  | non  => exact (by decide +kernel : kitB "NoneType" "bool" = some false)
  | bl _ => exact (by decide +kernel : kitB "bool" "bool" = some true)
  | int _ => exact (by decide +kernel : kitB "int" "bool" = some false)
  | str _ => exact (by decide +kernel : kitB "str" "bool" = some false)
  | lst _ => exact (by decide +kernel : kitB "list" "bool" = some false)
  | tup _ => exact (by decide +kernel : kitB "tuple" "bool" = some false)
  | dk _ _ => exact (by decide +kernel : kitB "dict" "bool" = some false)
  | dt _ _ => cases h
  | ins _ _ _ => cases h
  | scr _ => cases h
  | ty _ => cases h
  | cls _ => cases h
theorem kit_tuple {d : D} (h : d.tyOk = true) : kitB d.tyN "tuple" = some (isTup d) := by
  cases d with
  | non  => exact (by decide +kernel : kitB "NoneType" "tuple" = some false)
  | bl _ => exact (by decide +kernel : kitB "bool" "tuple" = some false)
  | int _ => exact (by decide +kernel : kitB "int" "tuple" = some false)
  | str _ => exact (by decide +kernel : kitB "str" "tuple" = some false)
  | lst _ => exact (by decide +kernel : kitB "list" "tuple" = some false)
  | tup _ => exact (by decide +kernel : kitB "tuple" "tuple" = some true)
  | dk _ _ => exact (by decide +kernel : kitB "dict" "tuple" = some false)
  | dt _ _ => cases h
  | ins _ _ _ => cases h
  | scr _ => cases h
  | ty _ => cases h
  | cls _ => cases h
theorem kit_list {d : D} (h : d.tyOk = true) : kitB d.tyN "list" = some (isLst d) := by
  cases d with
  | non  => exact (by decide +kernel : kitB "NoneType" "list" = some false)
  | bl _ => exact (by decide +kernel : kitB "bool" "list" = some false)
  | int _ => exact (by decide +kernel : kitB "int" "list" = some false)
  | str _ => exact (by decide +kernel : kitB "str" "list" = some false)
  | lst _ => exact (by decide +kernel : kitB "list" "list" = some true)
  | tup _ => exact (by decide +kernel : kitB "tuple" "list" = some false)
  | dk _ _ => exact (by decide +kernel : kitB "dict" "list" = some false)
  | dt _ _ => cases h
  | ins _ _ _ => cases h
  | scr _ => cases h
  | ty _ => cases h
  | cls _ => cases h
theorem kit_str {d : D} (h : d.tyOk = true) : kitB d.tyN "str" = some (isStr d) := by
  cases d with
  | non  => exact (by decide +kernel : kitB "NoneType" "str" = some false)
  | bl _ => exact (by decide +kernel : kitB "bool" "str" = some false)
  | int _ => exact (by decide +kernel : kitB "int" "str" = some false)
  | str _ => exact (by decide +kernel : kitB "str" "str" = some true)
  | lst _ => exact (by decide +kernel : kitB "list" "str" = some false)
  | tup _ => exact (by decide +kernel : kitB "tuple" "str" = some false)
  | dk _ _ => exact (by decide +kernel : kitB "dict" "str" = some false)
  | dt _ _ => cases h
  | ins _ _ _ => cases h
  | scr _ => cases h
  | ty _ => cases h
  | cls _ => cases h
end DL
set_option Elab.async false
set_option linter.all false
set_option maxRecDepth 100000
set_option maxHeartbeats 1000000
/-! Order of data, list of a dict, join, max, a display with a tuple key, targets over lists. -/
namespace DL
open PySem PySem.Spec PyProof.Rows L2
section
variable {X : Cx}
/-- a sequence's items into targets -/
def gSeqA (K : PySem.W.Frag) (n : Nat) (t : TGs) : TG := fun v σ H Q => gTup K n t v σ H Q ∨ gLst K n t v σ H Q
theorem pg_seqA {es : List Expr} {k : Nat} {pos : Pos} {t : TGs} {n : Nat} (hc : X.calm = true) (h : PGs X es t)
    (hn : (assignEach es X.env).length = n := by rfl) (hst : (assignEach es X.env).findIdx? (·.1) = none := by rfl) : PG X (.Tuple es k pos) (gSeqA X.K n t) := by
  refine ⟨fun pins s σ H v u Q I r hw => ?_⟩
  rcases hw with hw | hw
  · exact (pg_tup hc h hn hst).run pins s σ H v u Q I r hw
  · exact (pg_lst hc h hn hst).run pins s σ H v u Q I r hw
/-- x >= y of plain data -/
def rGeD (K : PySem.W.Frag) : R2 := fun x y H Q => ∃ dx dy, Dp K H x dx ∧ Dp K H y dy ∧ PySem.W.alike dx dy = true ∧ dx ≠ .none ∧ dx.depth ≤ 8 ∧ Q (.bl (!PySem.W.dataLt dx dy)) H
theorem op_geD (hu : X.A.units + 64 < cLine) : OpR X (compareOp .GtE) (rGeD X.K) := by
  intro pins s σ H x y v u Q I rx ry h
  obtain ⟨dx, dy, hx, hy, al, ne, dep, q⟩ := h
  obtain ⟨as, r1⟩ := Dp.reads I dx x v hx rx
  obtain ⟨bs, r2⟩ := Dp.reads I dy y u hy ry
  exact PySem.W.ge_data r1 r2 al ne (by omega) ⟨.bl _, H, I, rfl, q⟩
/-- list(x) of a sequence or a dict -/
def rLstDT : List V → Hp → VK → Prop := fun xs H Q => ∃ d kvs, xs = [V.ref d] ∧ Rd H d (.dT kvs) ∧ ∀ p bs, H p = none → IsKeys H kvs bs → Q (.ref p) (upd H p (.lst (bs.map V.ref)))
def rLstA (K : PySem.W.Frag) : List V → Hp → VK → Prop := fun xs H Q => rLstC K xs H Q ∨ (fun xs H Q => rListD xs H Q ∨ rLstDT xs H Q) xs H Q
theorem cr_lstA (hc : X.calm = true) : CallR X (.type "list") (rLstA X.K) := CallR.or call_list_of (CallR.or (call_list_dK hc) (call_list_dT hc))
/-- {k: v} with a tuple of ints and texts -/
def tDisp1T (tk tv : TE) : TE := fun σ H Q => ∀ p, H p = none → tk σ (upd H p (.dT [])) fun x H1 => tv σ H1 fun y H2 => ∃ (b : Addr) (k : List Key), x = .ref b ∧ H2 b = some (.tup (k.map kV)) ∧ H2 p = some (.dT []) ∧ Q (.ref p) (upd H2 p (.dT [(k, y)]))
theorem pe_disp1T {ke ve : Expr} {pos : Pos} {tk tv : TE} (hu : X.A.units + 1 < cLine) (hk : PE X ke tk) (hv : PE X ve tv) (hk1 : evalEachOpt [some ke] X.env = [some (eval ke X.env)] := by rfl) (hv1 : evalEach [ve] X.env = [eval ve X.env] := by rfl) :
    PE X (.Dict [some ke] [ve] pos) (tDisp1T tk tv) := by
  refine ⟨fun pins s σ H Q I q => ?_⟩
  have hn := I.hok.fresh (Nat.le_refl s.heap.objs.size)
  have I1 := I.laid (a := s.heap.objs.size) (o := .dT []) (h' := s.heap.push { cls := .type "dict", data := .dict #[] }) (t' := s.toks) (fun _ _ q => Heap.get?_push_of_some _ q) (Nat.le_refl _) (dt_empty s.heap I.big)
  have hsh : (evalEachOpt [some ke] X.env).zip ((evalEach [ve] X.env).map fun v => do let x ← v; standAt pos; pure x) = [(eval ke X.env, do let x ← eval ve X.env; standAt pos; pure x)].map fun p => (some p.1, p.2) := by rw [hk1, hv1]; rfl
  rw [arm_eval_Dict, hsh, dictDisplay_pairs _ (by simp) (by simp)]
  refine wpAny_bind (wpAny_standAt (wpAny_bind (wpAny_subDictH (knd := tupleKind (mixKind X.prog X.w)) (show (tupleKind (mixKind X.prog X.w)).room X.A from (by show X.A.units < cLine; omega)) (by simp) ?_)))
  refine evalPairs_cons (thn (hk.run pins _ σ _ _ I1 (q _ hn)) fun kv s2 ⟨x, H2, I2, rx, q2⟩ => wpAny_bind (thn (hv.run pins s2 σ H2 _ I2 q2) fun vv s3 ⟨y, H3, I3, ry, b, k, ex, hb, hp, q3⟩ => wpAny_bind (wpAny_standAt (wpAny_pure (evalPairs_nil ?_)))))
  subst ex
  cases (show kv = Value.ref b from rx)
  obtain ⟨z, hd, xs, rel, dd⟩ := dt_of I3.hok hp
  cases rel
  refine ⟨[(k, b, vv)], ⟨rfl, rfl, key_of I3.hok hb, trivial⟩, dd, fun h' tk' dd' hs => wpAny_pure ⟨.ref s.heap.objs.size, _, ?_, rfl, q3⟩⟩
  obtain ⟨o, es, ep, ho, h2, h3, h4, _, h5⟩ := dd'
  refine d_write I3 (by rw [hp]; exact True.intro) hs ⟨o, ho⟩ ⟨by simp [sizeLine_eq], hd, [(k, b, vv)], .cons ⟨rfl, ?_, ry⟩ .nil, o, es, ep, ho, h2, h3, h4, h5⟩
  rw [upd_ne (ne_of hb hp (fun z => nomatch z))]
  exact hb
end
section
variable {K : PySem.W.Frag} {W : WX} {ρ ρ' : List Sl} {te ta tb tl : TE} {d x y z : D} {xs ys ds zs : List D} {t : TA} {i j : Int} {n : Nat} {o : Out}
theorem tg_seqT {gs : TGs} {is : List Nat} (h : TgsD K gs is ds ρ ρ') (hn : ds.length = n) : TgD K (gSeqA K n gs) is (.tup ds) ρ ρ' := ⟨h.1, fun F0 H0 F H σ v R r Q q => .inl ((tg_tup h hn).2 F0 H0 F H σ v R r Q q)⟩
theorem tg_seqL {gs : TGs} {is : List Nat} (h : TgsD K gs is ds ρ ρ') (hn : ds.length = n) : TgD K (gSeqA K n gs) is (.lst ds) ρ ρ' := ⟨h.1, fun F0 H0 F H σ v R r Q q => by
  cases r with
  | lst h1 rs => exact .inr ⟨_, _, rfl, SqL.of (R.ex _ _ h1), by rw [rs.length]; exact hn, h.2 F0 H0 F H σ _ R rs Q q⟩⟩
theorem tv_geD (ha : EvD K ta ρ x) (hb : EvD K tb ρ y) (hx : x.pl = true) (hy : y.pl = true) (al : PySem.W.alike x.py y.py = true) (ne : x.py ≠ .none) (dep : x.py.depth ≤ 8) : TvD K (tTest (tOp (rGeD K) ta tb)) ρ (!PySem.W.dataLt x.py y.py) :=
  tv_test (ev_op ha hb fun F H e v u a b Q q => ⟨x.py, y.py, Dp.up e (a.dp hx), Dp.up e (b.dp hy), al, ne, dep, q _ F H (.refl e) (.bl _)⟩)
theorem evl_lstAL (h : EvSL K te ρ ds) : EvL K (tCB (rLstA K) (tCons te tNil)) ρ ds := evl_cbSL h fun F H e p vs s r Q q =>
  .inl ⟨p, vs, rfl, .inl s, fun l hl => q l vs F _ (.own e hl) hl (e.back hl) upd_same r⟩
theorem evl_lstAT (h : EvST K te ρ ds) : EvL K (tCB (rLstA K) (tCons te tNil)) ρ ds := fun F0 H0 F H σ R Q q =>
  h F0 H0 F H σ R _ fun p vs F1 H1 g1 s1 r1 => .inl ⟨p, vs, rfl, .inr s1, fun l hl => q l vs F1 _ (g1.trans (.own g1.s hl)) (g1.h.back hl) (g1.s.back hl) upd_same r1⟩
theorem reps_krKeys {F : Hp} : ∀ {ws : List (Key × V)} {kvs : List (Key × D)}, KR K F ws kvs → Reps K F (ws.map fun kv => kV kv.1) (kvs.map fun kv => kD kv.1)
  | _, _, .nil => .nil
  | _, _, .cons _ r => .cons (rep_key _) (reps_krKeys r)
theorem evl_lstDK {s : Nat} {kvs : List (Key × D)} (hx : ρ[s]? = some (.ok kvs)) : EvL K (tCB (rLstA K) (tCons (tVar s) tNil)) ρ (kvs.map fun kv => kD kv.1) := fun F0 H0 F H σ R Q q => by
  obtain ⟨p, h1, n0, nf, ws, h2, nd, rs⟩ := R.getOwn hx rfl
  exact ⟨_, h1, .inr (.inl ⟨p, ws, rfl, h2, fun l hl => q l _ F _ (.own R.ex hl) hl (R.ex.back hl) upd_same (reps_krKeys rs)⟩)⟩
/-- the key tuples become known -/
theorem keys_known {κ : Type} {F H : Hp} {ws : List (List Key × V)} (e : Ex F H) {f : κ → Addr} : ∀ {bs : List (κ × List Key)}, (∀ b ∈ bs, H (f b.1) = some (.tup (b.2.map kV))) → ∃ F', Gr F H F' H ∧ Reps K F' (bs.map fun b => .ref (f b.1)) (bs.map fun b => .tup (b.2.map kD))
  | [], _ => ⟨F, .refl e, .nil⟩
  | b :: bs, h => by
    obtain ⟨F1, g1, r1⟩ := keys_known e (ws := ws) (f := f) fun c hc => h c (List.mem_cons_of_mem _ hc)
    obtain ⟨F2, g2, h2⟩ := Gr.tup g1.s (h b List.mem_cons_self)
    exact ⟨F2, g1.trans g2, .cons (.tup h2 (reps_keys b.2)) (r1.mono g2.f)⟩
theorem isKeys_pairs {H : Hp} {ws : List (List Key × V)} {bs : List Addr} (h : IsKeys H ws bs) : ∃ ps : List (Addr × List Key), bs = ps.map (·.1) ∧ ws.map (·.1) = ps.map (·.2) ∧ ∀ p ∈ ps, H p.1 = some (.tup (p.2.map kV)) := by
  unfold IsKeys at h
  induction h with
  | nil => exact ⟨[], rfl, rfl, fun _ z => nomatch z⟩
  | @cons p b ps bs h t ih =>
    obtain ⟨qs, e1, e2, e3⟩ := ih
    refine ⟨(b, p.1) :: qs, by rw [e1]; rfl, by rw [List.map_cons, e2]; rfl, fun q hq => ?_⟩
    rcases List.mem_cons.mp hq with e | e
    · rw [e]; exact h
    · exact e3 q e
theorem evl_lstDT {kvs : List (List Key × D)} (h : EvDT K te ρ kvs) : EvL K (tCB (rLstA K) (tCons te tNil)) ρ (kvs.map fun kv => .tup (kv.1.map kD)) := fun F0 H0 F H σ R Q q =>
  h F0 H0 F H σ R _ fun a ws F1 H1 g1 s1 r1 => .inr (.inr ⟨a, ws, rfl, s1, fun p bs hp hk => by
    obtain ⟨ps, e1, e2, e3⟩ := isKeys_pairs hk
    obtain ⟨F2, g2, r2⟩ := keys_known (K := K) g1.s (ws := ws) (f := id) (bs := ps) e3
    have ek := r1.keys
    have e4 : (kvs.map fun kv => D.tup (kv.1.map kD)) = ps.map fun b => D.tup (b.2.map kD) := by
      have : (kvs.map (·.1)).map (fun k => D.tup (List.map kD k)) = (ps.map (·.2)).map (fun k => D.tup (List.map kD k)) := by rw [← ek, e2]
      rw [List.map_map, List.map_map] at this; exact this
    rw [e4] at q
    have g3 := g1.trans g2
    refine q p _ F2 _ (g3.trans (.own g2.s hp)) (g1.h.back hp) (g2.s.back hp) upd_same ?_
    rw [e1, List.map_map]
    exact r2⟩)
/-! ### sorted -/
/-- data in order -/
def sortD (ds : List D) : List D := ds.mergeSort (PySem.W.dataLe false D.py)
theorem reps_zip {F : Hp} : ∀ {vs : List V} {ds : List D}, Reps K F vs ds → ∃ cs : List (V × D), vs = cs.map (·.1) ∧ ds = cs.map (·.2) ∧ ∀ c ∈ cs, Rep K F c.1 c.2
  | _, _, .nil => ⟨[], rfl, rfl, fun _ z => nomatch z⟩
  | _, _, .cons (v := v) (d := d) h r => by
    obtain ⟨cs, e1, e2, e3⟩ := reps_zip r
    refine ⟨(v, d) :: cs, by rw [e1]; rfl, by rw [e2]; rfl, fun c hc => ?_⟩
    rcases List.mem_cons.mp hc with e | e
    · rw [e]; exact h
    · exact e3 c e
theorem reps_of {F : Hp} : ∀ {cs : List (V × D)}, (∀ c ∈ cs, Rep K F c.1 c.2) → Reps K F (cs.map (·.1)) (cs.map (·.2))
  | [], _ => .nil
  | c :: cs, h => .cons (h c List.mem_cons_self) (reps_of fun d hd => h d (List.mem_cons_of_mem _ hd))
theorem reps_sorted {F : Hp} {cs : List (V × D)} (h : ∀ c ∈ cs, Rep K F c.1 c.2) : Reps K F ((srtP (cs.map fun c => (c.1, c.2.py))).map (·.1)) (sortD (cs.map (·.2))) := by
  have e1 : (srtP (cs.map fun c => (c.1, c.2.py))) = (cs.mergeSort fun a b => PySem.W.dataLe false D.py a.2 b.2).map fun c => (c.1, c.2.py) := by
    rw [List.map_mergeSort (s := PySem.W.dataLe false (·.2))]
    intro a _ b _; rfl
  have e2 : sortD (cs.map (·.2)) = (cs.mergeSort fun a b => PySem.W.dataLe false D.py a.2 b.2).map (·.2) := by
    unfold sortD
    rw [List.map_mergeSort (s := PySem.W.dataLe false D.py)]
    intro a _ b _; rfl
  rw [e1, e2, List.map_map]
  exact reps_of fun c hc => h c ((List.mergeSort_perm _ _).mem_iff.mp hc)
theorem pys_map : ∀ ds : List D, D.pys ds = ds.map D.py
  | [] => rfl
  | d :: ds => by rw [D.pys, pys_map ds]; rfl
theorem pls_mem : ∀ {ds : List D}, D.pls ds = true → ∀ d ∈ ds, d.pl = true
  | d :: ds, h, e, he => by
    have p := Bool.and_eq_true_iff.mp h
    rcases List.mem_cons.mp he with z | z
    · rw [z]; exact p.1
    · exact pls_mem p.2 e z
theorem evl_sortL (h : EvSL K te ρ ds) (hp : D.pls ds = true) (so : SortOk (ds.map D.py)) : EvL K (tCB (rSortA K) (tCons te tNil)) ρ (sortD ds) := evl_cbSL h fun F H e p vs s r Q q => by
  obtain ⟨cs, e1, e2, e3⟩ := reps_zip r
  subst e1; subst e2
  refine ⟨p, cs.map fun c => (c.1, c.2.py), rfl, by rw [List.map_map]; exact s, fun b hb => ?_, by rw [List.map_map]; rw [List.map_map] at so; exact so, fun l hl => ?_⟩
  · obtain ⟨c, hc, rfl⟩ := List.mem_map.mp hb
    exact Dp.up e ((e3 c hc).dp (pls_mem hp _ (List.mem_map_of_mem hc)))
  · exact q l _ F _ (.own e hl) hl (e.back hl) upd_same (reps_sorted e3)
theorem py_kD (k : Key) : (kD k).py = keyPy k := by cases k <;> rfl
theorem py_kT (k : List Key) : (D.tup (k.map kD)).py = .tuple (k.map keyPy) := by
  show PyData.tuple (D.pys (k.map kD)) = _
  rw [pys_map, List.map_map]
  congr 1
  exact List.map_congr_left fun a _ => py_kD a
theorem evl_sortT {kvs : List (List Key × D)} (h : EvDT K te ρ kvs) (so : SortOk (kvs.map fun kv => PyData.tuple (kv.1.map keyPy))) : EvL K (tCB rSortT (tCons te tNil)) ρ (sortD (kvs.map fun kv => .tup (kv.1.map kD))) := fun F0 H0 F H σ R Q q =>
  h F0 H0 F H σ R _ fun a ws F1 H1 g1 s1 r1 => by
    have ek := r1.keys
    have e0 : (ws.map fun kv => PyData.tuple (kv.1.map keyPy)) = kvs.map fun kv => PyData.tuple (kv.1.map keyPy) := by
      have : (ws.map (·.1)).map (fun k => PyData.tuple (List.map keyPy k)) = (kvs.map (·.1)).map (fun k => PyData.tuple (List.map keyPy k)) := by rw [ek]
      rw [List.map_map, List.map_map] at this; exact this
    refine ⟨a, ws, rfl, s1, by rw [e0]; exact so, fun p bs hp hb hk => ?_⟩
    rw [e0] at hb
    have mk : ∀ bs : List (V × PyData), (∀ b ∈ bs, ∃ (q : Addr) (k : List Key), b.1 = V.ref q ∧ H1 q = some (.tup (k.map kV)) ∧ b.2 = PyData.tuple (k.map keyPy)) → ∃ ps : List (Addr × List Key), bs = ps.map (fun p => (V.ref p.1, PyData.tuple (p.2.map keyPy))) ∧ ∀ p ∈ ps, H1 p.1 = some (.tup (p.2.map kV)) := by
      intro bs
      induction bs with
      | nil => intro _; exact ⟨[], rfl, fun _ z => nomatch z⟩
      | cons b bs ih =>
        intro h
        obtain ⟨ps, e1, e2⟩ := ih fun c hc => h c (List.mem_cons_of_mem _ hc)
        obtain ⟨q, k, e3, e4, e5⟩ := h b List.mem_cons_self
        refine ⟨(q, k) :: ps, by rw [e1, List.map_cons, ← e3, ← e5], fun p hp => ?_⟩
        rcases List.mem_cons.mp hp with z | z
        · rw [z]; exact e4
        · exact e2 p z
    obtain ⟨ps, e1, e2⟩ := mk bs hk
    obtain ⟨F2, g2, r2⟩ := keys_known (K := K) g1.s (ws := ws) (f := id) (bs := ps) e2
    have inj : ∀ {k l : List Key}, k.map keyPy = l.map keyPy → k = l := fun {k l} h => by
      refine (List.map_inj_right (fun a b e => ?_)).mp h
      cases a <;> cases b <;> first | (injection e with e; rw [e]) | cases e
    have e4 : (kvs.map fun kv => D.tup (kv.1.map kD)) = ps.map fun b => D.tup (b.2.map kD) := by
      rw [e1, List.map_map] at hb
      have k1 : ps.map (·.2) = kvs.map (·.1) := by
        refine (List.map_inj_right (f := fun k : List Key => PyData.tuple (k.map keyPy)) (fun a b e => ?_)).mp (by rw [List.map_map, List.map_map]; exact hb)
        injection e with e
        exact inj e
      have : (kvs.map (·.1)).map (fun k => D.tup (List.map kD k)) = (ps.map (·.2)).map (fun k => D.tup (List.map kD k)) := by rw [k1]
      rw [List.map_map, List.map_map] at this; exact this
    have g3 := g1.trans g2
    refine q p _ F2 _ (g3.trans (.own g2.s hp)) (g1.h.back hp) (g2.s.back hp) upd_same ?_
    rw [e4, e1]
    have e5 : (ps.map fun p => (V.ref p.1, PyData.tuple (p.2.map keyPy))) = (ps.map fun p => (V.ref p.1, D.tup (p.2.map kD))).map fun c => (c.1, c.2.py) := by
      rw [List.map_map]
      refine List.map_congr_left fun a _ => ?_
      show _ = (V.ref a.1, (D.tup (a.2.map kD)).py)
      rw [py_kT]
    have e6 : (ps.map fun b => D.tup (b.2.map kD)) = (ps.map fun p => (V.ref p.1, D.tup (p.2.map kD))).map (·.2) := by rw [List.map_map]; rfl
    rw [e5, e6]
    refine reps_sorted fun c hc => ?_
    obtain ⟨p, hp, rfl⟩ := List.mem_map.mp hc
    exact (let rec go : ∀ {ps : List (Addr × List Key)}, Reps K F2 (ps.map fun b => V.ref (id b.1)) (ps.map fun b => D.tup (b.2.map kD)) → p ∈ ps → Rep K F2 (V.ref p.1) (D.tup (p.2.map kD))
      | [], _, z => nomatch z
      | a :: ps, .cons h r, z => by
        rcases List.mem_cons.mp z with e | e
        · rw [e]; exact h
        · exact go r e
      go r2 hp)
/-! ### join, max, a display -/
theorem ev_join {s : Str} {ss : List Str} (ha : EvD K ta ρ (.str s)) (hb : EvSL K tb ρ (ss.map D.str)) (hl : (ss.map (·.length)).sum + ss.length * s.length ≤ 16777216) :
    EvD K (tM1 (fun x xs H Q => ∃ a p, ∃ ys : List Str, x = .str a ∧ xs = [.ref p] ∧ (SqL K H p (ys.map V.str) ∨ SqT K H p (ys.map V.str)) ∧ (ys.map (·.length)).sum + ys.length * a.length ≤ 16777216 ∧ Q (.str (Txt.join a ys)) H) ta tb) ρ (.str (Txt.join s ss)) := fun F0 H0 F H σ R Q q =>
  ha F0 H0 F H σ R _ fun v F1 H1 g1 r1 => by
    cases r1
    refine ⟨⟨s, rfl⟩, hb F0 H0 F1 H1 σ (R.grow g1) _ fun p vs F2 H2 g2 s2 r2 => ?_⟩
    have e := r2.strs_inv
    subst e
    exact ⟨s, p, ss, rfl, rfl, .inl s2, hl, q _ F2 H2 (g1.trans g2) (.str _)⟩
theorem ev_maxL {ns : List Int} {m : Int} (h : EvSL K te ρ (ns.map D.int)) (hm : m ∈ ns) (hy : ∀ y ∈ ns, y ≤ m) : EvD K (tCB (rMax K) (tCons te tNil)) ρ (.int m) := ev_cbSL h fun F H e p vs s r Q q => by
  have e1 := r.ints_inv
  subst e1
  refine ⟨p, ns, rfl, s, List.length_pos_of_mem hm, fun m' h1 h2 => ?_⟩
  have a := hy m' h1
  have b := h2 m hm
  have : m' = m := by omega
  subst this
  exact q _ F H (.refl e) (.int _)
theorem sv_asgDisp1T {s : Nat} {k : List Key} (hk : EvD K ta (ρ) (.tup (k.map kD))) (hv : EvD K tb ρ d) : SvD K W (tAsg (tDisp1T ta tb) (gName s)) ρ (.nx (ρ.set s (.ot [(k, d)]))) := fun E F0 H0 F H σ R P => fun p hp => by
  have g0 : Gr F H F (upd H p (.dT [])) := .own R.ex hp
  have fp : F p = none := R.ex.back hp
  refine hk F0 H0 F _ σ (R.grow g0) _ fun x F1 H1 g1 r1 => hv F0 H0 F1 H1 σ (R.grow (g0.trans g1)) _ fun y F2 H2 g2 r2 => ?_
  obtain ⟨b, rfl, hb⟩ := rep_kT r1
  have gA := (g0.trans g1).trans g2
  have h2 : H2 p = some (.dT []) := (g1.trans g2).h _ _ upd_same
  have f2 : F2 p = none := (g1.trans g2).n p _ upd_same rfl fp
  have hp0 : H0 p = none := R.gr.h.back hp
  have RA := R.grow gA
  refine ⟨b, k, rfl, gA.s _ _ (g2.f _ _ hb), h2, ?_⟩
  refine P _ F2 _ gA.f ((RA.side hp0 f2 fun j y h3 h4 h5 => ?_).setOwn s rfl ⟨hp0, f2, [(k, y)], upd_same, by simp, .cons r2 .nil⟩ fun j y h3 h4 _ h5 => ?_)
  · exact (R.fresh hp j y h3 h4) h5
  · exact (R.fresh hp j y h3 h4) h5
end
end DL
namespace DL
open PySem L2
/-- sep.join(xs) -/
abbrev tJoin (K : PySem.W.Frag) (to te : TE) : TE := tM1 (fun x xs H Q => ∃ a p, ∃ ys : List Str, x = .str a ∧ xs = [.ref p] ∧ (SqL K H p (ys.map V.str) ∨ SqT K H p (ys.map V.str)) ∧ (ys.map (·.length)).sum + ys.length * a.length ≤ 16777216 ∧ Q (.str (Txt.join a ys)) H) to te
end DL
set_option Elab.async false
set_option linter.all false
set_option maxRecDepth 100000
set_option maxHeartbeats 2000000
/-! Sets of texts that are made by a comprehension and sorted. -/
namespace DL
open PySem PySem.Spec PyProof.Rows L2 PySem.Froz
/-- the set at a holds the texts l; its table rises and can be walked -/
structure STx (P : Program) (w : World) (a : Addr) (l : List Str) (h : Heap) : Prop where
  ob : ∃ D : SD, h.get? a = some (sObj "set" D) ∧ TxOk P w D l ∧ Ris D.2.2.place.toList ∧ (w.params.followText "set-order" = true ∨ D.2.2.led = true)
  nd : l.Nodup
  sz : l.length < scanBound
section
variable {P : Program} {w : World} {A : Around} {E : Value → Shared → Prop} {s : Shared} {a : Addr} {l : List Str}
theorem STx.keep {h h' : Heap} (R : STx P w a l h) (k : ∀ o, h.get? a = some o → h'.get? a = some o) : STx P w a l h' := by
  obtain ⟨⟨D, h1, h2⟩, nd, z⟩ := R
  exact ⟨⟨D, k _ h1, h2⟩, nd, z⟩
theorem ris_tail {ep : Nat} {es1 : Array (Int × Value)} {t2 : SetTable} {b : Bool} (h : Ris t2.place.toList) : Ris (tailTx ep es1 t2 b).2.2.place.toList := by
  unfold tailTx
  split
  · exact relayAll_ris _ _ _
  · exact h
theorem led_tail {ep : Nat} {es1 : Array (Int × Value)} {t2 : SetTable} {b : Bool} : (tailTx ep es1 t2 b).2.2.led = t2.led := by
  unfold tailTx
  split
  · exact relayAll_led _ _ _
  · rfl
theorem ris_add {h : Int} {v : Value} {D : SD} (r : Ris D.2.2.place.toList) : Ris (addTx h v D).2.2.place.toList := by
  unfold addTx
  refine ris_tail ?_
  have q := layNew_ris D.2.2 D.1 h v r
  split <;> exact q
theorem led_add {h : Int} {v : Value} {D : SD} : (addTx h v D).2.2.led = D.2.2.led := by
  unfold addTx
  rw [led_tail]
  have q := layNew_led D.2.2 D.1 h v
  split <;> exact q
/-- a text that is there already -/
theorem there_x {D : SD} {k : Str} {u : Tok} {Q : Bool → Shared → Prop} (ho : s.heap.get? a = some (sObj "set" D)) (F : TxOk P w D l) (hk : k ∈ l) (hb : l.length < scanBound) (h : Q false s) : wpAny (model P w) A (setAddHashed a (.str k u) (hashStr w k)) Q E s := by
  obtain ⟨els, ep, tb⟩ := D
  have hel : ElemsOf (strKind P w) els.toList := F.el
  have hb0 : els.size < scanBound := by have := F.sz; simp only at this; omega
  have hkey : (strKind P w).is k (.str k u) = true := is_str k u
  unfold setAddHashed setAddHashedIn
  refine wpAny_holding (wpAny_bind (wpAny_setState_of ho rfl F.fit ?_))
  dsimp only
  rw [byScan_of rfl hb0 hel]
  simp only [↓reduceIte]
  unfold setAddByScan
  refine wpAny_bind (wpAny_bind (wpAny_rule (wpAny_bind (wpAny_setScan_of (knd := strKind P w) (k := k) hkey ho rfl F.fit hel ?_))))
  cases hfi : List.findIdx? (fun e => (strKind P w).is k e.2) els.toList with
  | some j => exact wpAny_pure (wpAny_pure h)
  | none =>
    obtain ⟨e, he, q⟩ := (F.mem k).mp hk
    have c := List.findIdx?_eq_none_iff.mp hfi e he
    rw [q] at c; cases c
theorem stx_add {k : Str} {u : Tok} {Q : Value → Shared → Prop} (R : STx P w a l s.heap) (room : l.length + 1 < scanBound)
    (hQ : ∀ h', Heap.SameBut a s.heap h' → STx P w a (if k ∈ l then l else k :: l) h' → Q .none { s with heap := h', toks := s.toks + 1 }) : wpAny (model P w) A (call (.builtin "set.add") [.ref a, .str k u]) Q E s := by
  have R0 := R
  obtain ⟨⟨D, ho, F, hr, hl⟩, nd, hz⟩ := R
  refine wpAny_call_entry PySem.F.slot_set_add ⟨_, ho, rfl⟩ PySem.F.entry_set_add ?_ (PySem.F.args_set_add_2 _ _)
  unfold Builtin.«set.add» Builtin.Frozenset.oneOther
  simp only [List.isEmpty_nil, bind_assoc]
  unfold Builtin.Frozenset.addrOf setAdd
  refine wpAny_bind (wpAny_pure ?_)
  try dsimp only
  refine wpAny_bind (wpAny_pure ?_)
  try dsimp only
  refine wpAny_bind (wpAny_holding (wpAny_bind ((strKind P w).pyHash (is_str k u) ?_)))
  by_cases hk : k ∈ l
  · rw [if_pos hk] at hQ
    refine there_x (s := { s with toks := s.toks + 1 }) ho F hk hz ?_
    show wpAny _ _ (ret Value.none) _ _ _
    exact wpAny_pure ⟨_, rfl, hQ s.heap (Heap.SameBut.refl a s.heap) R0⟩
  · rw [if_neg hk] at hQ
    refine add_x (s := { s with toks := s.toks + 1 }) ho F hk room ?_
    show wpAny _ _ (ret Value.none) _ _ _
    refine wpAny_pure ⟨_, rfl, hQ _ (Heap.SameBut.update s.heap a _) ⟨⟨_, get_upd _ ho rfl, add_ok u F, ris_add hr, hl.imp id fun z => by rw [led_add]; exact z⟩, List.nodup_cons.mpr ⟨hk, nd⟩, by rw [List.length_cons]; exact room⟩⟩
theorem stx_new (w : World) (h : Heap) : STx P w h.objs.size [] (h.push { cls := .type "set", dict := none, data := .set #[] 0 (.fresh 0 0 (!w.params.followText "set-order")) }) :=
  ⟨⟨(#[], 0, .fresh 0 0 (!w.params.followText "set-order")), Heap.get?_push_size _ rfl, .nil rfl, List.Pairwise.nil, by
    show _ ∨ (!w.params.followText "set-order") = true
    cases w.params.followText "set-order"
    · exact .inr rfl
    · exact .inl rfl⟩, List.nodup_nil, by decide⟩
end
/-- .. as a tracked thing -/
def SetTO (P : Program) (w : World) (a : Addr) (l : List Str) : HO := .ext fun h => STx P w a l h
section
variable {X : Cx} {pins : List (Addr × Obj)} {σ : L2.St} {H : Hp} {s : Shared}
theorem stO_ok {P : Program} {w : World} {h : Heap} {a : Addr} {l : List Str} (R : STx P w a l h) : ObjOk P w H h a (SetTO P w a l) := by
  have ⟨⟨D, h1, _⟩, _, _⟩ := R
  exact ⟨R, ⟨_, h1⟩, fun _ _ p k => p.keep k⟩
theorem stO_at {a : Addr} {l : List Str} (I : Inv X pins σ H s) (ha : H a = some (SetTO X.prog X.w a l)) : STx X.prog X.w a l s.heap := (I.hok a _ ha).1
theorem stO_add {E : Value → Shared → Prop} {D : Addr} {l : List Str} {k : Str} {u : Tok} {Q : Value → Shared → Prop} (I : Inv X pins σ H s) (hD : H D = some (SetTO X.prog X.w D l)) (room : l.length + 1 < scanBound)
    (h : ∀ s', Inv X pins σ (upd H D (SetTO X.prog X.w D (if k ∈ l then l else k :: l))) s' → Q .none s') : wpAny (model X.prog X.w) X.A (call (.builtin "set.add") [.ref D, .str k u]) Q E s :=
  stx_add (stO_at I hD) room fun h' sb new => by
    have ⟨⟨D', h1, _⟩, _, _⟩ := new
    exact h _ (I.write (e := D) (t' := s.toks + 1) (by rw [hD]; trivial) (.inl rfl) (fun b u hb hu => (sb.2 b hb).trans hu) ⟨_, h1⟩ (stO_ok new))
/-- {elt for target in iter}, elt a text -/
def tScT (P : Program) (w : World) (wi : TI) (g : TG) (te : TE) (vs : List Nat) : TE := fun σ H Q => wi σ H fun J H1 => ∀ D, H1 D = none → ∃ Z : Nat → Nat → Hp → Prop, (∃ m, Z 0 m (upd H1 D (SetTO P w D []))) ∧ ∀ i m H, Z i m H →
  (J.stop i H ∧ Q (.ref D) H) ∨ (J.go i H ∧ ∃ Nx : Hp → Prop, (∀ H', Nx H' → ∃ m', m' < m ∧ Z (i + 1) m' H') ∧ ∀ x H', J.yld i H x H' → g x (wipe σ vs) H' fun σ2 H2 => wipe σ2 vs = wipe σ vs ∧
    te σ2 H2 fun y H4 => ∃ (k : Str) (l : List Str), y = .str k ∧ H4 D = some (SetTO P w D l) ∧ l.length + 1 < scanBound ∧ Nx (upd H4 D (SetTO P w D (if k ∈ l then l else k :: l))))
theorem pe_scT {elt tg iter : Expr} {scope : Scope} {own : List (PySem.Str × Nat)} {pos : Pos} {wi : TI} {g : TG} {te : TE} (hc : X.calm = true) (hN : X.N.Nodup) (hi : PI X tg iter wi) (ok : BlkOk X.N X.env.scope scope own)
    (hg : ∀ (s : Shared) (H : Hp) (C : Addr) (cl : List (PySem.Str × Addr)) (fp : List Addr), PG (X.blk s H scope (compEnvC scope cl C X.env) fp) tg g)
    (he : ∀ (s : Shared) (H : Hp) (C : Addr) (cl : List (PySem.Str × Addr)) (fp : List Addr), PE (X.blk s H scope (compEnvC scope cl C X.env) fp) elt te) (hs : ∀ x, foldedSetIterable iter X.env x = pure x := by intro _; rfl) :
    PE X (.SetComp elt [⟨tg, iter, [], 0⟩] scope pos) (tScT X.prog X.w wi g te (own.map (·.2))) := by
  refine ⟨fun pins s σ H Q I h => ?_⟩
  rw [PpSet.eval_SetComp]
  have free : ∀ y ∈ scope.names, y.2 = .free → ∃ c, X.env.cells.lookup y.1 = some c := fun y hy e => (ok.free y hy e).elim (fun k => I.ok.has _ (.inl k)) fun k => I.ok.has _ (.inr k)
  refine wpAny_comprehension_free (use := none) rfl hs (closure_ok free) ok.kind (fun y hy e => by rw [ok.uniq y hy, e]) (thn (hi.run pins s σ H _ I h) fun xv s1 hx => thn hx fun itv s2 h2 => ?_)
  obtain ⟨it, fp, tn, J, H2, rfl, I2, T, st2, f2, q⟩ := h2
  refine PpSet.newSet_ok (newEnv_comp ?_)
  obtain ⟨D, hD⟩ : ∃ D, D = s2.heap.objs.size := ⟨_, rfl⟩
  rw [← hD]
  have free2 : H2 D = none := I2.hok.fresh (Nat.le_of_eq hD.symm)
  obtain ⟨Z, ⟨m0, z0⟩, turn⟩ := q D free2
  obtain ⟨s3, hs3⟩ : ∃ s3 : Shared, s3 = { s2 with heap := s2.heap.push { cls := .type "set", dict := none, data := .set #[] 0 (.fresh 0 0 (!X.w.params.followText "set-order")) } } := ⟨_, rfl⟩
  have e3 : s3.heap = s2.heap.push { cls := .type "set", dict := none, data := .set #[] 0 (.fresh 0 0 (!X.w.params.followText "set-order")) } := by rw [hs3]
  have I3 : Inv X pins σ (upd H2 D (SetTO X.prog X.w D [])) s3 := by
    rw [hs3]
    refine I2.laid (t' := s2.toks) (fun b o e => Heap.get?_push_of_some _ e) (Nat.le_of_eq hD.symm) ?_
    rw [hD]
    exact stO_ok (stx_new X.w s2.heap)
  have small : ∀ b ∈ fp, b < s2.heap.objs.size := fun b hb => (T.obj _ _ st2 b hb).elim fun o e => Heap.lt_size e.1
  have f3 : ∀ b ∈ fp, FpOk X pins (upd H2 D (SetTO X.prog X.w D [])) b ∧ b < s3.heap.objs.size := fun b hb => by
    have lt := small b hb
    exact ⟨⟨by rw [upd_ne (by rw [hD]; exact Nat.ne_of_lt lt)]; exact (f2 b hb).1, (f2 b hb).2⟩, by rw [e3, Heap.size_push]; exact Nat.lt_succ_of_lt lt⟩
  have st3 : tn 0 s3.heap := T.keep _ _ _ st2 fun b _ o e => by rw [e3]; exact Heap.get?_push_of_some _ e
  have I4 := block_start I3 ok hN f3
  rw [← hs3]
  have pg := hg s3 (upd H2 D (SetTO X.prog X.w D [])) s3.heap.objs.size (cellsFrom (s3.heap.objs.size + 1) scope.names (cloFrom X.env.cells scope.names [])) fp
  have pe := he s3 (upd H2 D (SetTO X.prog X.w D [])) s3.heap.objs.size (cellsFrom (s3.heap.objs.size + 1) scope.names (cloFrom X.env.cells scope.names [])) fp
  show codeAny _ _ (.compStart (.SetComp elt [⟨tg, iter, [], 0⟩] scope pos) 0 (.ref it) (.ref D) (compEnvC scope (cellsFrom (s3.heap.objs.size + 1) scope.names (cloFrom X.env.cells scope.names [])) s3.heap.objs.size X.env)) (compPost (model X.prog X.w) X.A X.xe none _ (.ref D) s3.heap.objs.size) { s3 with heap := pushCells (s3.heap.push { cls := .type "dict", data := .dict #[] }) scope.names }
  have nfp : ∀ b ∈ fp, (upd H2 D (SetTO X.prog X.w D [])) b = none := fun b hb => (f3 b hb).1.1
  obtain ⟨ce, hce⟩ : ∃ ce, ce = compEnvC scope (cellsFrom (s3.heap.objs.size + 1) scope.names (cloFrom X.env.cells scope.names [])) s3.heap.objs.size X.env := ⟨_, rfl⟩
  rw [← hce] at I4 pg pe ⊢
  have cL : ce.locals = s3.heap.objs.size := by rw [hce]; rfl
  obtain ⟨H3, hH3⟩ : ∃ H3, H3 = upd H2 D (SetTO X.prog X.w D []) := ⟨_, rfl⟩
  rw [← hH3] at I3 I4 pg pe z0 nfp f3
  obtain ⟨s4, hs4⟩ : ∃ s4 : Shared, s4 = { s3 with heap := pushCells (s3.heap.push { cls := .type "dict", data := .dict #[] }) scope.names } := ⟨_, rfl⟩
  rw [← hs4] at I4 ⊢
  have st4 : tn 0 s4.heap := T.keep _ _ _ st3 fun b _ o e => by rw [hs4]; exact pushCells_keeps _ _ _ _ (Heap.get?_push_of_some _ e)
  have stay : ∀ {σ' : L2.St} {H' : Hp} {s' : Shared}, Inv (X.blk s3 H3 scope ce fp) [] σ' H' s' → (∀ b ∈ fp, H' b = none) → ∀ b ∈ fp, FpOk (X.blk s3 H3 scope ce fp) [] H' b := fun {σ' H' s'} I' hn b hb =>
    ⟨hn b hb, (I'.ok.exf b hb).1, I'.ok.exfs b hb, .inl hb, fun x c e => (I'.ok.exf b hb).2 x c e, fun p hp => nomatch (show p ∈ ([] : List (Addr × Obj)) from hp)⟩
  refine PpSet.codeAny_compStart_set ?_ (T.self X.A 0 _ _ _ st4 ?_)
  all_goals
    refine PpSet.compLoopS_any (fun n s' => ∃ i H', Inv (X.blk s3 H3 scope ce fp) [] (wipe σ (own.map (·.2))) H' s' ∧ tn i s'.heap ∧ (∀ b ∈ fp, H' b = none) ∧ Z i n H') ?_ m0 ⟨0, H3, I4, st4, nfp, z0⟩
    rintro n s5 ⟨i, H5, I5, st5, n5, z5⟩
    rcases turn i n H5 z5 with ⟨stop, fin⟩ | ⟨go, Nx, hNx, step⟩
    · refine thnF (T.done (X.blk s3 H3 scope ce fp) rfl rfl rfl hc i [] s5 _ H5 (fun _ _ => False) I5 (stay I5 n5) st5 stop) fun r s6 ⟨hr, I6⟩ => ?_
      subst hr
      have I7 : Inv X pins σ H5 s6 := I3.call' (ch := fp) I6.os I6.base I6.hok I6.bare fun b hb => ⟨(f3 b hb).1.2.2.2.1, (f3 b hb).1.2.1, (f3 b hb).1.2.2.2.2.1, (f3 b hb).1.2.2.2.2.2⟩
      have nC : H5 s3.heap.objs.size = none := by
        have z : H5 ce.locals = none := I6.free
        rwa [cL] at z
      obtain ⟨m, hm, _⟩ := I6.loc
      have hm : s6.heap.Ns ce.locals m := hm
      rw [cL] at hm
      refine ⟨m, hm, fun h'' sb => ?_⟩
      obtain ⟨p0, p1, p2, p3, p4, p5⟩ := I3.fpOk (Nat.le_refl _) nC
      exact ⟨.ref D, H5, I7.turned (t' := s6.toks) (fun b o hb e => (sb.2 b hb).trans e) p0 p1 p3 p4 p5, rfl, fin⟩
    · refine thnF (T.item (X.blk s3 H3 scope ce fp) rfl rfl rfl hc i [] s5 _ H5 (fun _ _ => False) I5 (stay I5 n5) st5 go) fun r s6 ⟨u, hr, h6⟩ => ?_
      subst hr
      refine thnF h6 fun _ s7 ⟨x, H7, I7, r7, y7, st7, n7⟩ => ?_
      have J7 := I7.pinned (stay I7 n7) (T.obj _ _ st7)
      refine thnF (pg.run _ s7 _ H7 x u _ J7 r7 (step x H7 y7)) fun _ s8 ⟨σ8, H8, I8, w8, q8⟩ => ?_
      show wpAny _ _ (pure true) _ _ s8
      refine wpAny_pure ?_
      simp only [if_true]
      refine thnF (pe.run _ s8 σ8 H8 _ I8 q8) fun v s10 ⟨yv, H10, I10, r10, k, l, ey, hl, room, nx⟩ => ?_
      subst ey
      obtain ⟨tk, rfl⟩ := (show ∃ t, v = Value.str k t from r10)
      refine stO_add (X := X.blk s3 H3 scope ce fp) I10 hl room fun s11 I11 => ?_
      obtain ⟨m', hm, z'⟩ := hNx _ nx
      have pin : ∀ b ∈ fp, ∀ o, s7.heap.get? b = some o → s11.heap.get? b = some o ∧ (upd H10 D (SetTO X.prog X.w D (if k ∈ l then l else k :: l))) b = none := fun b hb o e =>
        have z := I11.pin (b, o) (List.mem_append_right _ (List.mem_append_right _ (mem_pinsAt hb e)))
        ⟨z.1, z.2.1⟩
      have hlen : (wipe σ (own.map (·.2))).length = σ8.length := by rw [← w8, wipe_length]
      refine ⟨m', hm, i + 1, _, (I11.unpinned (pins := [])).weak hlen (fun j v e => ?_), T.keep _ _ _ st7 fun b hb o e => (pin b hb o e).1, fun b hb => ?_, z'⟩
      · rw [← w8] at e
        exact (wipe_some e).1
      · obtain ⟨o, e, _⟩ := T.obj _ _ st7 b hb
        exact (pin b hb o e).2
end
end DL
set_option Elab.async false
set_option linter.all false
set_option maxRecDepth 100000
set_option maxHeartbeats 2000000
/-! sorted of a set of texts; a set comprehension over plain data. -/
namespace DL
open PySem PySem.Spec PyProof.Rows L2 PySem.Froz
def leX (a b : Str) : Bool := decide (a.cps.toList ≤ b.cps.toList)
def rSortTx (P : Program) (w : World) : List V → Hp → VK → Prop := fun xs H Q => ∃ (a : Addr) (l : List Str), xs = [.ref a] ∧ H a = some (SetTO P w a l) ∧ ∀ (p : Addr) (ss : List Str), H p = none → ss.Perm l → ss.Pairwise (fun a b => leX a b = true) → Q (.ref p) (upd H p (.lst (ss.map V.str)))
def txOf : Value → Str
  | .str x _ => x
  | _ => Str.empty
section
variable {X : Cx}
theorem perm_sub {α : Type} [DecidableEq α] : ∀ (l m : List α), l.Nodup → (∀ a ∈ l, a ∈ m) → m.length = l.length → m.Perm l
  | [], m, _, _, h => by rw [List.eq_nil_of_length_eq_zero h]
  | a :: l, m, nd, h, e => by
    obtain ⟨n1, n2⟩ := List.nodup_cons.mp nd
    have ha := h a List.mem_cons_self
    refine (List.perm_cons_erase ha).trans (List.Perm.cons a (perm_sub l (m.erase a) n2 (fun b hb => (List.mem_erase_of_ne (fun e => n1 (by rw [← e]; exact hb))).mpr (h b (List.mem_cons_of_mem _ hb))) ?_))
    rw [List.length_erase_of_mem ha, e, List.length_cons]; rfl
theorem leX_trans (a b c : Str) (h1 : leX a b = true) (h2 : leX b c = true) : leX a c = true := by
  unfold leX at *
  simp only [decide_eq_true_eq] at *
  exact List.le_trans h1 h2
theorem leX_total (a b : Str) : (leX a b || leX b a) = true := by
  unfold leX
  rw [Bool.or_eq_true, decide_eq_true_eq, decide_eq_true_eq]
  exact List.le_total _ _
theorem cr_sortTx (hc : X.calm = true) (hu : X.A.units + 64 < cLine) : CallR X (.builtin "sorted") (rSortTx X.prog X.w) := by
  intro pins s σ H xs us Q I r h
  obtain ⟨a, l, rfl, ha, q⟩ := h
  obtain ⟨u, rfl, rx⟩ := r.one
  cases rx
  obtain ⟨⟨D, ho, F, hr, hl⟩, nd, hz⟩ := stO_at I ha
  have hsz : D.1.size < scanBound := by have := F.sz; omega
  refine Calls.call_function_entry kind_sorted plain_sorted entry_sorted (args_sorted1 _) ?_
  unfold Builtin.«sorted»
  refine wpAny_bind (m := checkCount "sorted" 1 1 _) (wpAny_pure ?_)
  refine wpAny_bind (collect_set (A := X.A.in1) (I.ok.hd hc) ⟨_, ho, rfl, rfl⟩ F.fit hsz hr hl fun s1 vs k1 hs1 g1 o1 pm => ?_)
  have I1 : Inv X pins σ H s1 := I.call' (ch := []) o1 (Un.kept k1) (I.hok.kept k1) (by rw [g1]; exact I.bare) (fun _ z => nomatch z)
  -- the values are texts, as many as l, none twice
  have shape : ∀ v ∈ vs, ∃ k t, v = Value.str k t ∧ k ∈ l := fun v hv => by
    obtain ⟨e, he, rfl⟩ := List.mem_map.mp (pm.mem_iff.mp hv)
    obtain ⟨⟨k, hk, _⟩, _⟩ := F.el e he
    obtain ⟨t, ht⟩ := Value.isStrOf_shape (x := k) (v := e.2) hk
    exact ⟨k, t, ht, (F.mem k).mpr ⟨e, he, hk⟩⟩
  have hlen : vs.length = l.length := by rw [pm.length_eq, List.length_map, Array.length_toList, F.sz]
  have sub : ∀ k ∈ l, k ∈ vs.map txOf := fun k hk => by
    obtain ⟨e, he, q⟩ := (F.mem k).mp hk
    obtain ⟨t, ht⟩ := Value.isStrOf_shape (x := k) (v := e.2) q
    exact List.mem_map.mpr ⟨e.2, pm.mem_iff.mpr (List.mem_map_of_mem he), by rw [ht]; rfl⟩
  have perm : (vs.map txOf).Perm l := perm_sub l (vs.map txOf) nd sub (by rw [List.length_map, hlen])
  have rv : Vals (((vs.map txOf).map fun t => (V.str t, PyData.str t)).map (·.1)) vs := by
    rw [List.map_map, List.map_map]
    have go : ∀ us : List Value, (∀ v ∈ us, ∃ k t, v = Value.str k t ∧ k ∈ l) → Vals (us.map fun v => V.str (txOf v)) us := by
      intro us
      induction us with
      | nil => intro _; exact .nil
      | cons v us ih =>
        intro h
        obtain ⟨k, t, e, _⟩ := h v List.mem_cons_self
        refine .cons ?_ (ih fun x hx => h x (List.mem_cons_of_mem _ hx))
        rw [e]; exact ⟨t, rfl⟩
    exact go vs shape
  have so : SortOk (((vs.map txOf).map fun t => (V.str t, PyData.str t)).map (·.2)) := by
    rw [List.map_map]
    refine ⟨fun d hd e he => ?_, .inr fun d hd => ?_, fun d hd => ?_, ?_⟩
    · obtain ⟨x, _, rfl⟩ := List.mem_map.mp hd
      obtain ⟨y, _, rfl⟩ := List.mem_map.mp he
      rfl
    · obtain ⟨x, _, rfl⟩ := List.mem_map.mp hd
      exact ⟨(fun z => nomatch z), fun xs z => nomatch z⟩
    · obtain ⟨x, _, rfl⟩ := List.mem_map.mp hd
      show (PyData.str x).depth ≤ 8
      simp [PyData.depth]
    · rw [List.length_map, List.length_map, hlen]
      have : scanBound = 4096 := rfl
      omega
  refine wpAny_bind (wpAny_newList ?_ (by rw [hlen]; exact fits_of_scanBound hz))
  have tail := sort_tail (X := X) (pins := pins) (σ := σ) (s := s1) (h' := s1.heap) (tk := s1.toks) (Q := Q) (R := fun _ s' => EP X pins σ Q (.ref s1.heap.objs.size) s') hu I1 rv (fun b hb => by
    obtain ⟨t, _, rfl⟩ := List.mem_map.mp hb
    exact .str t) so (fun b hb => by
    obtain ⟨t, _, rfl⟩ := List.mem_map.mp hb
    exact noL_key (.inr t)) (fun p hp => by
    have e1 : (srtP ((vs.map txOf).map fun t => (V.str t, PyData.str t))).map (·.1) = ((vs.map txOf).mergeSort leX).map V.str := by
      have e2 : srtP ((vs.map txOf).map fun t => (V.str t, PyData.str t)) = ((vs.map txOf).mergeSort leX).map fun t => (V.str t, PyData.str t) := by
        rw [List.map_mergeSort (s := PySem.W.dataLe false (·.2))]
        intro a _ b _
        have := congrFun (congrFun (PySem.W.dataLe_str (fun t : Str => t)) a) b
        exact this.symm
      rw [e2, List.map_map]; rfl
    rw [e1]
    exact q p _ hp ((List.mergeSort_perm _ _).trans perm) (List.pairwise_mergeSort leX_trans leX_total _)) (fun s' h => h) (X.A.in1) (by show X.A.units + 1 ≤ _; omega)
  refine wpAny_bind (wpAny_holding (wpAny_mono tail (fun _ s' h => wpAny_pure ⟨_, rfl, h⟩) fun _ _ h => h))
end
section
variable {K : PySem.W.Frag} {W : WX} {ρ : List Sl} {te : TE} {ds : List D}
def insM (acc : List Str) (k : Str) : List Str := if k ∈ acc then acc else k :: acc
def setM (l : List Str) : List Str := l.foldl insM []
theorem setM_take {l : List Str} {i : Nat} {k : Str} (h : l[i]? = some k) : setM (l.take (i + 1)) = insM (setM (l.take i)) k := by
  unfold setM
  rw [List.take_add_one, List.foldl_append, h]; rfl
theorem evl_sortSet {P : Program} {w : World} {wi : TI} {g : TG} {vs : List Nat} {fs : D → Str} (hw : WiD K wi ρ ds) (hs : ∀ d ∈ ds, ∃ is ρ1, TgD K g is d (wipeS ρ vs) ρ1 ∧ (∀ j ∈ is, j ∈ vs) ∧ EvD K te ρ1 (.str (fs d))) (hb : ∀ i, (setM ((ds.map fs).take i)).length + 1 < scanBound)
    {ss : List Str} (hu : ∀ l : List Str, l.Perm (setM (ds.map fs)) → l.Pairwise (fun a b => leX a b = true) → l = ss) : EvL K (tCB (rSortTx P w) (tCons (tScT P w wi g te vs) tNil)) ρ (ss.map D.str) := fun F0 H0 F H σ R Q q =>
  hw F0 H0 F H σ R _ fun J A F1 H1 g1 src a1 => fun Dl hD => by
    have hD0 : H Dl = none := g1.h.back hD
    have hDF1 : F1 Dl = none := g1.s.back hD
    have hD00 : H0 Dl = none := R.gr.h.back hD0
    have Rw : RelS K F0 H0 F1 H1 (L2.wipe σ vs) (wipeS ρ vs) := (R.grow g1).wipe vs
    have fr := Rw.fresh hD
    refine ⟨fun i m H' => ∃ F', m = ds.length - i ∧ i ≤ ds.length ∧ Gr F H F' H' ∧ RelS K F0 H0 F' H' (L2.wipe σ vs) (wipeS ρ vs) ∧ Ex F1 F' ∧ F' Dl = none ∧ H' Dl = some (SetTO P w Dl (setM ((ds.map fs).take i))),
      ⟨ds.length, F1, rfl, Nat.zero_le _, g1.side hD0 hDF1, Rw.side hD00 hDF1 fr, Ex.refl F1, hDF1, upd_same⟩, ?_⟩
    rintro i m H' ⟨F', rfl, hi, g', R', ex, hDF, hDH⟩
    have a' := src.keep _ _ a1 ex
    by_cases hlt : i < ds.length
    · refine .inr ⟨src.go i F' H' hlt a' R'.ex, fun H2 => ∃ F2, Gr F H F2 H2 ∧ RelS K F0 H0 F2 H2 (L2.wipe σ vs) (wipeS ρ vs) ∧ Ex F1 F2 ∧ F2 Dl = none ∧ H2 Dl = some (SetTO P w Dl (setM ((ds.map fs).take (i + 1)))),
        fun H2 ⟨F2, x1, x2, x3, x4, x5⟩ => ⟨ds.length - (i + 1), by omega, F2, rfl, hlt, x1, x2, x3, x4, x5⟩, fun x H2 y => ?_⟩
      obtain ⟨d, hd⟩ : ∃ d, ds[i]? = some d := ⟨ds[i], List.getElem?_eq_getElem hlt⟩
      obtain ⟨F2, g2, rx⟩ := src.yld i F' H' x H2 d hd a' R'.ex y
      obtain ⟨is, ρ1, tg, sub, hy⟩ := hs d (List.mem_of_getElem? hd)
      refine tg.2 F0 H0 F2 H2 _ x (R'.grow g2) rx _ fun σ3 R3 l3 k3 => ⟨?_, ?_⟩
      · rw [wipe_same l3 k3 sub, wipe_wipe]
      · refine hy F0 H0 F2 H2 σ3 R3 _ fun v F4 H4 g4 r4 => ?_
        cases r4
        have gA := (g'.trans g2).trans g4
        have RA := (R'.grow g2).grow g4
        have nD4 : F4 Dl = none := g4.n _ _ (g2.h _ _ hDH) rfl (g2.n _ _ hDH rfl hDF)
        have hD4 : H4 Dl = some (SetTO P w Dl (setM ((ds.map fs).take i))) := g4.h _ _ (g2.h _ _ hDH)
        have hk : (ds.map fs)[i]? = some (fs d) := by rw [List.getElem?_map, hd]; rfl
        refine ⟨fs d, _, rfl, hD4, hb i, F4, gA.side hD0 nD4, RA.side hD00 nD4 fr, (ex.trans g2.f).trans g4.f, nD4, ?_⟩
        rw [upd_same, setM_take hk]; rfl
    · have e : i = ds.length := by omega
      subst e
      have ht : (ds.map fs).take ds.length = ds.map fs := by rw [← List.length_map (f := fs), List.take_length]
      rw [ht] at hDH
      refine .inl ⟨src.stop _ _ a' R'.ex, ⟨Dl, _, rfl, hDH, fun p l hp h1 h2 => ?_⟩⟩
      have e2 := hu l h1 h2
      subst e2
      exact q p _ F' _ (g'.trans (.own g'.s hp)) (g'.h.back hp) (g'.s.back hp) upd_same Reps.strs
end
end DL
set_option Elab.async false
set_option linter.all false
set_option maxRecDepth 100000
set_option maxHeartbeats 1000000
/-! Exceptions over plain data: raise of an own class without arguments, a call that raises, try .. except X as e. -/
namespace DL
open PySem PySem.Spec PyProof.Rows L2
section
variable {X : Cx} {C : Addr} {bmB : List Value} {B newId initId : String}
/-- X() -/
theorem pmk_none {x : Str} {p pos : Pos} (F : ExcBaseFacts B newId initId bmB) (q : PySem.W.excIn X.K C bmB newId = true) (gC : X.mg x = some (.ref C)) (kC : PySem.W.keepIn X.K (.ref C) = true) (r : Raises X (.ref C)) (hg : Gl X x)
    (hdb : (x == ("__debug__" : Str)) = false := by decide) : L2N.PMk X (.Call (.Name x p) [] [] pos) (fun _ H Q => Q (.ref C) none H) := by
  intro pins s σ H Q I h
  refine wpAny_Call_Name_kw (ld_glob I hg gC ?_ hdb)
  refine PySem.W.callWith_K0 I.kIn kC ?_
  show wpAny _ _ (call (.ref C) []) _ _ _
  obtain ⟨bm, N, nm, qn, bs, hdct, sn, sub, ab, col, dd, k0, k1, k2, k3, k5, mN, hC, hN, hni, T⟩ := exc_obj I.kIn q
  refine wpAny_call_exc_subT F T hC hN hni (fun h' e hm => ?_) (by show 0 ≤ sizeLine; exact Nat.zero_le _)
  exact L2N.mk_of I hm r h (I.hok.gone hm.new)
end
section
variable {K : PySem.W.Frag} {W : WX} {ρ ρ' : List Sl} {te : TE} {t u : TS} {o : Out} {ds : List D} {ta : TA} {i n : Nat} {f : List D → Res → Prop}
/-- raise X() -/
theorem sv_raise {C : Addr} : SvD K W (fun _ σ H => W (.ref C) none σ H) ρ (.er C [] ρ) := fun E F0 H0 F H σ R p => p none σ F H (Ex.refl F) R (.inl ⟨rfl, rfl⟩)
/-- a call that raises, as a statement -/
theorem sv_callEr {C : Addr} {fs : List (Str × D)} (h : AvD K ta ρ ds) (hf : f ds (.er C fs)) (hn : ds.length = n := by rfl) : SvD K W (tDrop (tCallS (SpF K n f) (WE W) ta)) ρ (.er C fs ρ) := fun E F0 H0 F H σ R p =>
  h F0 H0 F H σ R _ fun vs F1 H1 g1 r1 => ⟨F1, ds, .er C fs, g1.s, r1, by rw [r1.length]; exact hn, hf, fun od F2 H2 g2 x => p od σ F2 H2 (g1.trans g2).f (R.grow (g1.trans g2)) x⟩
/-- try: body, except c as (slot i): suite -/
def tTryAs (K : PySem.W.Frag) (c : Value) (i : Nat) (tb : WX → TS) (ts : Addr → Value → Option Addr → TS) (Wout : WX) : TS := fun D σ H => tb (wAs K c i ts Wout D) D σ H
theorem sv_tryOk {c : Value} {tb : WX → TS} {ts : Addr → Value → Option Addr → TS} (h : ∀ W', SvD K W' (tb W') ρ o) (hne : ∀ C fs ρ', o ≠ .er C fs ρ') : SvD K W (tTryAs K c i tb ts W) ρ o := fun E F0 H0 F H σ R p =>
  h _ E F0 H0 F H σ R (by cases o with
    | nx ρ => exact p
    | rt d => exact p
    | bk ρ => exact p
    | ct ρ => exact p
    | er C fs ρ' => exact absurd rfl (hne C fs ρ'))
/-- the slot of the name is emptied behind the suite -/
def Out.gone (i : Nat) : Out → Out
  | .nx ρ => .nx (ρ.set i .no)
  | .bk ρ => .bk (ρ.set i .no)
  | .ct ρ => .ct (ρ.set i .no)
  | o => o
theorem sv_tryEr {c : Value} {tb : WX → TS} {ts : Addr → Value → Option Addr → TS} {C : Addr} {fs : List (Str × D)} {ρ1 : List Sl} (h : ∀ W', SvD K W' (tb W') ρ (.er C fs ρ1)) (hx : PySem.W.exmOne K (.ref C) c = some true)
    (hs : ∀ (a : Addr) (od : Option Addr), SvD K W (ts a (.ref C) od) (ρ1.set i (.d (.cls a))) o) (hne : ∀ C fs ρ', o ≠ .er C fs ρ') : SvD K W (tTryAs K c i tb ts W) ρ (o.gone i) := fun E F0 H0 F H σ R p =>
  h _ E F0 H0 F H σ R fun od σ1 F1 H1 e1 R1 xr => ⟨true, hx, fun _ a ha => hs a od _ F0 H0 F1 H1 (σ1.set i (some (.ref a))) (R1.set i (.cls a)) (by
    cases o with
    | nx ρ => exact fun σ2 F2 H2 e2 R2 => p _ F2 H2 (e1.trans e2) (R2.forget i none)
    | rt d => exact fun v F2 H2 e2 g2 r2 => p v F2 H2 (e1.trans e2) g2 r2
    | bk ρ => exact fun σ2 F2 H2 e2 R2 => p _ F2 H2 (e1.trans e2) (R2.forget i none)
    | ct ρ => exact fun σ2 F2 H2 e2 R2 => p _ F2 H2 (e1.trans e2) (R2.forget i none)
    | er C fs ρ' => exact absurd rfl (hne C fs ρ')), fun z => nomatch z⟩
end
end DL
set_option Elab.async false
set_option linter.all false
set_option maxRecDepth 100000
set_option maxHeartbeats 1000000
/-! A def that is called in a suite and handed the exception that is handled there; isinstance of it. -/
namespace DL
open PySem PySem.Spec PyProof.Rows L2
/-- what such a def promises: the promise may speak of the handled exception p -/
structure FnX (P : Program) (w : World) (K : PySem.W.Frag) (mg : Str → Option Value) (base : Heap) (CX : CXT) (k : Nat) (f : Addr) (fd : FuncData) (ps : List Str) (sp : Addr × Obj → Sp) : Prop where
  len : ∀ p vs H Q E, sp p vs H Q E → vs.length = ps.length
  run : ∀ (A : Around) (outer : List Env) (s : Shared) (H : Hp) (args : Args) (us : List Value) (vs : List V) (Q : VK) (E : XK) (p : Addr × Obj), L2H.RoomH k A → L2H.Hot1 A p → L2H.PinOk outer H s p → Env0 P w K mg base A outer s H → BindsTo s fd args (ps.zip us) → Vals vs us → sp p vs H Q E →
    codeAny (model P w) A (.call (.ref f) args) (CR CX outer P w H s Q E) s
theorem fnX_of {CX : CXT} {P : Program} {w : World} {K : PySem.W.Frag} {mg : Str → Option Value} {base : Heap} {k : Nat} {x qual : Str} {st : Stmt} {f : Addr} {fd : FuncData} {N ps : List Str} {sp : Addr × Obj → Sp} (F : Fun K x qual st f fd) (S : FnScope N ps (defScope st))
    (len : ∀ p vs H Q E, sp p vs H Q E → vs.length = ps.length)
    (body : ∀ (cdv : Value) (A : Around) (outer : List Env) (s : Shared) (H : Hp) (vs : List V) (Q : VK) (E : XK) (p : Addr × Obj), L2H.Hot1 A p → L2H.RoomH k (A.deeper (envOfC qual (defScope st) s.heap.objs.size f cdv)) → sp p vs H Q E →
      ∃ t, PSs (L2H.cxH CX P w K mg base N qual (defScope st) f cdv A outer s H E p) (defBody st) t ∧ t { nx := fun _ H' => Q .non H', rt := Q } (L2.start N vs) H) : FnX P w K mg base CX (k + 1) f fd ps sp := by
  obtain ⟨oc, od, kV, doc, pm, an, cdv, ct, osl, rfl, lk, hcd⟩ := F.ex
  refine ⟨len, fun A outer s H args us vs Q E p room hot pin e0 bnd rv h => ?_⟩
  have hl := len _ _ _ _ _ h
  have kin : K.In s.heap := e0.mod.kin.keeps fun b o e => (e0.bs b o e).1
  have nolim : s.heap.NoLimit := e0.mod.nolimit.keeps fun b o e => (e0.bs b o e).1
  have kinds : ∀ y ∈ ps.zip us, (defScope st).names.lookup y.1 = some .local ∨ ((defScope st).names.lookup y.1 = some .cell ∧ ((cellsFrom (s.heap.objs.size + 1) (defScope st).names []).lookup y.1).isSome = true) := fun y hy =>
    (S.par y.1 (List.of_mem_zip hy).1).imp id fun q => ⟨q, PySem.W.cellsFrom_some _ _ _ (.inl q)⟩
  refine codeAny_call_function room.depth (kin _ _ lk) rfl S.co S.gen rfl (PySem.W.codeRec_of kin hcd) (bnd _ _ _ _ ?_)
  refine wpAny_newFunctionEnv_cells S.kind kinds fun env he s1 z => ?_
  subst he
  refine ⟨nolim.keeps z.toInCall.keep, codeAny_func ?_⟩
  obtain ⟨t, ht, hq⟩ := body cdv A outer s H vs Q E p hot (room.deeper _) h
  refine wpAny_mono (ht.run [] s1 (L2.start N vs) H _ (L2H.inv_startH S pin e0 hl rv z) hq) (fun fl s' hs => ?_) fun e s' hs => hs
  cases fl with
  | ret u =>
    obtain ⟨v, σ', H', J, rw, q⟩ := hs
    exact ⟨v, H', J.os, J.bare, J.base, J.hok, rw, q⟩
  | next =>
    obtain ⟨σ', H', J, q⟩ := hs
    exact ⟨.non, H', J.os, J.bare, J.base, J.hok, rfl, q⟩
  | brk => obtain ⟨_, _, _, q⟩ := hs; exact q.elim
  | cont => obtain ⟨_, _, _, q⟩ := hs; exact q.elim
theorem vals_refs_eq : ∀ {cs : List Addr} {us : List Value}, Vals (cs.map V.ref) us → us = cs.map Value.ref
  | [], us, h => by cases h; rfl
  | c :: cs, us, h => by
    cases h with
    | cons h r =>
      cases h
      rw [vals_refs_eq r]; rfl
section
variable {X : Cx} {CX : CXT} {k : Nat} {f : Addr} {fd : FuncData} {ps : List Str} {sp : Addr × Obj → Sp} {E : L2.St → XK} {x : Str} {q pos : Pos} {e : Expr} {es : List Expr} {t : TA} {p : Addr × Obj}
theorem pe_callX (F : FnX X.prog X.w X.K X.mg X.base CX k f fd ps sp) (hr : L2H.RoomH k X.A) (hot : L2H.Hot1 X.A p) (hp : p ∈ X.pn) (hg : Gl X x) (hm : X.mg x = some (.ref f)) (hk : PySem.W.keepIn X.K (.ref f) = true) (hb : Binds X.K fd ps []) (hx : ∀ σ, PassesAt CX X σ (E σ))
    (ha : PA X (e :: es) t) (hdb : (x == ("__debug__" : Str)) = false := by decide) (he : starEach (e :: es) X.env = (false, eval e X.env) :: starEach es X.env := by rfl) (hpl : (backTo pos (starEach es X.env)).any (·.1) = false := by rfl) :
    PE X (.Call (.Name x q) (e :: es) [] pos) (tCallS (sp p) E t) := by
  refine ⟨fun pins s σ H Q I h => ?_⟩
  refine wpAny_Call_Name_kw (ld_glob I hg hm ?_ hdb)
  refine PySem.W.callWith_K (h₀ := X.base) I.ok.mod.kin hk (thn (ha.run pos pins s σ H _ I h) fun us s1 ⟨vs, H1, I1, r, q⟩ => ⟨I1.kIn, ?_⟩) he hpl
  have hl : us.length = ps.length := by rw [← r.length]; exact F.len _ _ _ _ _ q
  have b := hb s1 us I1.kIn (by rw [List.append_nil]; exact hl)
  rw [List.append_nil] at b
  have P1 := I1.pin p (List.mem_append_left _ hp)
  have pin : L2H.PinOk X.stack H1 s1 p := ⟨P1.1, P1.2.1, fun hm => (List.mem_cons.mp (I1.stkSub p.1 hm)).elim P1.2.2.1 P1.2.2.2.1, P1.2.2.2.2⟩
  refine wpAny_call (codeAny_mono (F.run X.A X.stack s1 H1 ⟨us, []⟩ us vs Q (E σ) p hr hot pin I1.env0 b r q) fun r s' hq => ?_)
  cases r with
  | error e => exact hx σ pins H1 s1 e s' I1 hq
  | ok fl =>
    cases fl with
    | ret u => exact I1.after hq
    | next => exact hq.elim
    | brk => exact hq.elim
    | cont => exact hq.elim
/-- isinstance of the pinned exception (a, oe), one class or a tuple of classes -/
def rIsX (K : PySem.W.Frag) (p : Addr × Obj) : List V → Hp → VK → Prop := fun xs H Q => ∃ (D : Addr) (b : Bool), p.2.cls = .ref D ∧ p.2.dict = none ∧ (∃ vs, p.2.data = .fields vs) ∧ ExcC K D ∧
  ((∃ (c : V) (cv : Value), xs = [.ref p.1, c] ∧ (∀ u, RelV c u → u = cv) ∧ PySem.W.kitOne K (.ref D) cv = some b ∧ Q (.bl b) H) ∨
   ∃ (tp : Addr) (cs : List Addr), xs = [.ref p.1, .ref tp] ∧ H tp = some (.tup (cs.map V.ref)) ∧ PySem.W.kitAny K (.ref D) (cs.map Value.ref) = some b ∧ Q (.bl b) H)
theorem cr_isX (hp : p ∈ X.pn) : CallR X (.builtin "isinstance") (rIsX X.K p) := by
  intro pins s σ H xs us Q I r h
  obtain ⟨D, b, h1, h2, ⟨vs, hv⟩, C, h⟩ := h
  obtain ⟨a, oc, od, oda, osl⟩ := p
  dsimp only at h1 h2 hv h
  subst h1 h2 hv
  have get := (I.pin _ (List.mem_append_left _ hp)).1
  have J : PySem.W.InstAt s.heap a ⟨.ref D, none, .fields vs, osl⟩ D none := ⟨get, rfl, rfl, trivial⟩
  have Z := PySem.W.handS_kitx_exc (x := a) (ox := ⟨.ref D, none, .fields vs, osl⟩) C.hg C.hk C.hs C.hd C.ha C.hn C.ht C.hm
  rcases h with ⟨c, cv, rfl, hcv, e, q⟩ | ⟨tp, cs, rfl, ht, e, q⟩
  · cases r with
    | cons rx rr =>
      cases rr with
      | cons rt rr =>
        cases rr
        cases rx
        have ec := hcv _ rt
        subst ec
        exact PySem.W.kia_one Z I.kIn J e (fun z => nomatch z) fun tk => ⟨.bl b, H, I.kept (t' := tk) fun _ _ z => z, rfl, q⟩
  · cases r with
    | cons rx rr =>
      cases rr with
      | cons rt rr =>
        cases rr
        cases rx
        cases rt
        obtain ⟨_, its, rv, ⟨tc, td, tda, tsl⟩, g1, g2, n, g3⟩ := (show ObjOk X.prog X.w H s.heap tp (.tup (cs.map V.ref)) from I.hok tp _ ht)
        dsimp only at g2 g3
        subst g2 g3
        have ei : its = cs.map Value.ref := vals_refs_eq rv
        subst ei
        exact PySem.W.kia_tup Z I.kIn J g1 e (fun z => nomatch z) fun tk => ⟨.bl b, H, I.kept (t' := tk) fun _ _ z => z, rfl, q⟩
end
end DL
set_option Elab.async false
set_option linter.all false
set_option maxRecDepth 100000
set_option maxHeartbeats 1000000
/-! Exceptions without fields over plain data: raise, try .. except C as e, isinstance(e, ..), a def that is handed e. -/
namespace DL
open PySem PySem.Spec PyProof.Rows L2
/-! ### the rules of syntax -/
def tRaise (C : Addr) (W : WX) : TS := fun _ σ H => W (.ref C) none σ H
/-- what the written part says of a class that is raised without arguments -/
structure ErrF (K : PySem.W.Frag) (C : Addr) : Prop where
  ex : PySem.W.excIn K C He.veBase "ValueError.__new__" = true
  kp : PySem.W.keepIn K (.ref C) = true
  sb : PySem.W.subIn K (.ref C) (.type "BaseException") = some true
  ty : PySem.W.typeIn K (.ref C) = some (.type "type")
theorem errF_ok {K : PySem.W.Frag} {x : Str} (c : (He.Fa.exc x).ok K = true) : ErrF K (He.ga K x) := by
  obtain ⟨a, b, c, d⟩ := He.exc_ok c
  exact ⟨a, b, c, d⟩
section
variable {X : Cx} {C : Addr} {x : Str} {p pos pos2 : Pos} {W : WX}
theorem ps_raiseD (hc : X.calm = true) (tk : L2N.Takes X W) (e : ErrF X.K C) (gC : X.mg x = some (.ref C)) (hg : Gl X x) (hdb : (x == ("__debug__" : Str)) = false := by decide) :
    PS X (.Raise (some (.Call (.Name x p) [] [] pos)) none pos2) (tRaise C W) :=
  L2N.ps_raise hc tk (pmk_none F.excBase_ValueError e.ex gC e.kp (raises_own e.sb e.ty) hg hdb)
end
section
variable {X : Cx} {x n : Str} {c : Value} {i : Nat} {body suite : List Stmt} {b₀ : Stmt} {np pos pos' : Pos} {tb : WX → TS} {ts : Addr → Value → Option Addr → TS} {Wout : WX}
theorem ps_tryD (i : Nat) (hs : X.stack = X.env :: X.outer) (hf : X.env.frame = some X.env.locals) (hN : X.N.Nodup) (hi : X.N[i]? = some n) (hln : X.env.kindOf n = some .local) (hc : L2.Names X x c) (tk : L2N.Takes X Wout)
    (hb : ∀ (W : WX) (pn : List (Addr × Obj)) (xe : Value → Shared → Prop), L2N.Takes (X.tr pn xe) W → PassesOwn (model X.prog X.w) X.A X.env xe → PSs (X.tr pn xe) body (tb W))
    (hsu : ∀ (a : Addr) (oe : Obj) (cls : Value) (d : Option Addr) (pn : List (Addr × Obj)), L2N.Zn cls d oe → (∃ vs, oe.data = .fields vs) → PSs (X.suite a ((a, oe) :: pn)) (b₀ :: suite) (ts a cls d)) :
    PS X (.Try body [.ExceptHandler (some (.Name x np)) (some n) (b₀ :: suite) pos'] [] [] pos) (tTryAs X.K c i tb ts Wout) :=
  L2N.ps_try_as hs hf hN hi hln hc tk hb hsu
end
/-- isinstance of the handled exception: at a, of class cls, dict d -/
def rIsY (K : PySem.W.Frag) (a : Addr) (cls : Value) (d : Option Addr) : List V → Hp → VK → Prop := fun xs H Q => ∃ (D : Addr) (b : Bool), cls = .ref D ∧ d = none ∧ ExcC K D ∧
  ((∃ (c : V) (cv : Value), xs = [.ref a, c] ∧ (∀ u, RelV c u → u = cv) ∧ PySem.W.kitOne K (.ref D) cv = some b ∧ Q (.bl b) H) ∨
   ∃ (tp : Addr) (cs : List Addr), xs = [.ref a, .ref tp] ∧ H tp = some (.tup (cs.map V.ref)) ∧ PySem.W.kitAny K (.ref D) (cs.map Value.ref) = some b ∧ Q (.bl b) H)
theorem cr_isY {X : Cx} {a : Addr} {cls : Value} {d : Option Addr} {oe : Obj} (hp : (a, oe) ∈ X.pn) (hz : oe.cls = cls ∧ oe.dict = d) (hf : ∃ vs, oe.data = .fields vs) : CallR X (.builtin "isinstance") (rIsY X.K a cls d) := fun pins s σ H xs us Q I r h => by
  obtain ⟨D, b, h1, h2, C, h⟩ := h
  exact cr_isX hp pins s σ H xs us Q I r ⟨D, b, hz.1.trans h1, hz.2.trans h2, hf, C, h⟩
/-- the promise of a def that is handed the exception -/
def SpY (K : PySem.W.Frag) (n : Nat) (fr : Addr → Addr → List D → Res → Prop) (a : Addr) (cls : Value) (d : Option Addr) : Sp := fun vs H Q E => ∃ D : Addr, cls = .ref D ∧ d = none ∧ SpF K n (fr a D) vs H Q E
def CalX (P : Program) (w : World) (K : PySem.W.Frag) (mg : Str → Option Value) (base : Heap) (k : Nat) (x : Str) (ps : List Str) (fr : Addr → Addr → List D → Res → Prop) : Prop :=
  ∃ f fd, mg x = some (.ref f) ∧ PySem.W.keepIn K (.ref f) = true ∧ Binds K fd ps [] ∧ FnX P w K mg base (L2N.CX P w) k f fd ps (fun p => SpY K ps.length fr p.1 p.2.cls p.2.dict)
theorem pe_callY {X : Cx} {x : Str} {q pos : Pos} {e : Expr} {es : List Expr} {t : TA} {W : WX} {k : Nat} {ps : List Str} {fr : Addr → Addr → List D → Res → Prop} {a : Addr} {oe : Obj} {cls : Value} {d : Option Addr}
    (C : CalX X.prog X.w X.K X.mg X.base k x ps fr) (hr : L2H.RoomH k X.A) (hh : X.A.handled = some (.ref a)) (hp : (a, oe) ∈ X.pn) (hz : L2N.Zn cls d oe) (hf : ∃ vs, oe.data = .fields vs) (hg : Gl X x) (tk : L2N.Takes X W) (ha : PA X (e :: es) t)
    (hdb : (x == ("__debug__" : Str)) = false := by decide) (he : starEach (e :: es) X.env = (false, eval e X.env) :: starEach es X.env := by rfl) (hpl : (backTo pos (starEach es X.env)).any (·.1) = false := by rfl) :
    PE X (.Call (.Name x q) (e :: es) [] pos) (tCallS (SpY X.K ps.length fr a cls d) (WE W) t) := by
  obtain ⟨f, fd, h1, h2, h3, h4⟩ := C
  obtain ⟨vs, hv⟩ := hf
  have z := pe_callX (q := q) (p := (a, oe)) h4 hr ⟨hh, vs, hv, hz.2.2 vs hv⟩ hp hg h1 h2 h3 (fun σ => L2N.passAt tk σ) ha hdb he hpl
  have e1 : oe.cls = cls := hz.1
  have e2 : oe.dict = d := hz.2.1
  rw [← e1, ← e2]
  exact z
theorem calX_of {P : Program} {w : World} {K : PySem.W.Frag} {mg : Str → Option Value} {base : Heap} {k : Nat} {x : Str} {st : Stmt} {N ps : List Str} (A : FunAt K mg x st ps) (S : FnScope N ps (defScope st)) (fr : Addr → Addr → List D → Res → Prop)
    (hbody : ∀ (f : Addr) (cdv : Value) (A : Around) (outer : List Env) (s : Shared) (H : Hp) (E : XK) (p : Addr × Obj), L2H.Hot1 A p → L2H.RoomH k (A.deeper (envOfC x (defScope st) s.heap.objs.size f cdv)) → (∃ vs, p.2.data = .fields vs) →
      ∃ t, PSs (L2H.cxH (L2N.CX P w) P w K mg base N x (defScope st) f cdv A outer s H E p) (defBody st) t ∧ ∀ C, p.2.cls = .ref C → p.2.dict = none → ∀ ds r, fr p.1 C ds r → ds.length = ps.length → FnEnd K (wD E) t (entry N ds) r) : CalX P w K mg base (k + 1) x ps fr := by
  obtain ⟨f, fd, h1, h2, h3⟩ := A
  refine ⟨f, fd, h1, h2.kp, h3, fnX_of h2 S (fun p vs H Q E h => ?_) fun cdv A outer s H vs Q E p hot hr h => ?_⟩
  · obtain ⟨_, _, _, _, _, _, _, _, h, _⟩ := h
    exact h
  · have hf : ∃ vs, p.2.data = .fields vs := by obtain ⟨_, vs, e, _⟩ := hot; exact ⟨vs, e⟩
    obtain ⟨t, ht, hs⟩ := hbody f cdv A outer s H E p hot hr hf
    obtain ⟨C, hC, hd, F1, ds, r, ex, rs, hl, hfr, q⟩ := h
    refine ⟨t, ht, ?_⟩
    have R := entry_rel (N := N) ex rs
    rcases hs C hC hd ds r hfr (by rw [← rs.length]; exact hl) with h | ⟨rfl, ρ', h⟩
    · cases r with
      | ok d => exact h _ F1 H F1 H _ R fun v F' H' _ g rv => q v F' H' g rv
      | er C fs =>
        obtain ⟨ρ', h⟩ := h
        exact h _ F1 H F1 H _ R fun od σ F' H' _ g rv => q od F' H' g.gr rv
    · exact h _ F1 H F1 H _ R fun σ F' H' _ R' => q .non F' H' R'.gr .non
/-! ### over plain data -/
section
variable {K : PySem.W.Frag} {W : WX} {ρ ρ' : List Sl} {te ta tb : TE} {t u : TS} {o : Out} {d : D} {ds : List D} {tg : TA} {i n : Nat} {f : List D → Res → Prop} {C : Addr}
theorem sv_raiseD : SvD K W (tRaise C W) ρ (.er C [] ρ) := sv_raise
/-- the body ends well -/
theorem sv_tryOkD {c : Value} {tb : WX → TS} {ts : Addr → Value → Option Addr → TS} (h : ∀ W', SvD K W' (tb W') ρ o) (hne : ∀ C fs ρ', o ≠ .er C fs ρ') : SvD K W (tTryAs K c i tb ts W) ρ o := sv_tryOk h hne
/-- the body raises C(), the clause takes it -/
theorem sv_tryErD {c : Value} {tb : WX → TS} {ts : Addr → Value → Option Addr → TS} {ρ1 : List Sl} (h : ∀ W', SvD K W' (tb W') ρ (.er C [] ρ1)) (hx : PySem.W.exmOne K (.ref C) c = some true)
    (hs : ∀ a : Addr, SvD K (fun _ _ _ _ => False) (ts a (.ref C) none) (ρ1.set i (.d (.cls a))) o) (hne : ∀ C fs ρ', o ≠ .er C fs ρ') : SvD K W (tTryAs K c i tb ts W) ρ (o.gone i) := fun E F0 H0 F H σ R p =>
  h _ E F0 H0 F H σ R fun od σ1 F1 H1 e1 R1 xr => by
    have hod : od = none := by
      rcases xr with ⟨_, e⟩ | ⟨z, _⟩
      · exact e
      · exact absurd rfl z
    subst hod
    exact ⟨true, hx, fun _ a ha => hs a _ F0 H0 F1 H1 (σ1.set i (some (.ref a))) (R1.set i (.cls a)) (by
      cases o with
      | nx ρ => exact fun σ2 F2 H2 e2 R2 => p _ F2 H2 (e1.trans e2) (R2.forget i none)
      | rt d => exact fun v F2 H2 e2 g2 r2 => p v F2 H2 (e1.trans e2) g2 r2
      | bk ρ => exact fun σ2 F2 H2 e2 R2 => p _ F2 H2 (e1.trans e2) (R2.forget i none)
      | ct ρ => exact fun σ2 F2 H2 e2 R2 => p _ F2 H2 (e1.trans e2) (R2.forget i none)
      | er C fs ρ' => exact absurd rfl (hne C fs ρ')), fun z => nomatch z⟩
/-- the body raises C(..), the clause lets it pass -/
theorem sv_tryNoD {c : Value} {tb : WX → TS} {ts : Addr → Value → Option Addr → TS} {fs : List (Str × D)} {ρ1 : List Sl} (h : ∀ W', SvD K W' (tb W') ρ (.er C fs ρ1)) (hx : PySem.W.exmOne K (.ref C) c = some false) : SvD K W (tTryAs K c i tb ts W) ρ (.er C fs ρ1) := fun E F0 H0 F H σ R p =>
  h _ E F0 H0 F H σ R fun od σ1 F1 H1 e1 R1 xr => ⟨false, hx, (fun z => nomatch z), fun _ => p od σ1 F1 H1 e1 R1 xr⟩
/-- a call that raises, in an expression's place: as a statement that gives a name, that returns -/
theorem sv_asgEr {g : TG} (h : AvD K tg ρ ds) {fs : List (Str × D)} (hf : f ds (.er C fs)) (hn : ds.length = n := by rfl) : SvD K W (tAsg (tCallS (SpF K n f) (WE W) tg) g) ρ (.er C fs ρ) := fun E F0 H0 F H σ R p =>
  h F0 H0 F H σ R _ fun vs F1 H1 g1 r1 => ⟨F1, ds, .er C fs, g1.s, r1, by rw [r1.length]; exact hn, hf, fun od F2 H2 g2 x => p od σ F2 H2 (g1.trans g2).f (R.grow (g1.trans g2)) x⟩
theorem sv_retEr (h : AvD K tg ρ ds) {fs : List (Str × D)} (hf : f ds (.er C fs)) (hn : ds.length = n := by rfl) : SvD K W (tRet (tCallS (SpF K n f) (WE W) tg)) ρ (.er C fs ρ) := fun E F0 H0 F H σ R p =>
  h F0 H0 F H σ R _ fun vs F1 H1 g1 r1 => ⟨F1, ds, .er C fs, g1.s, r1, by rw [r1.length]; exact hn, hf, fun od F2 H2 g2 x => p od σ F2 H2 (g1.trans g2).f (R.grow (g1.trans g2)) x⟩
theorem ev_cls {C : Addr} : EvD K (tC (.ref C)) ρ (.cls C) := fun F0 H0 F H σ R Q q => q _ F H (.refl R.ex) (.cls C)
theorem ev_isC {a D : Addr} {b : Bool} (ha : EvD K ta ρ (.cls a)) (e : ExcC K D) (hk : PySem.W.kitOne K (.ref D) (.ref C) = some b) : EvD K (tCB (rIsY K a (.ref D) none) (tCons ta (tCons (tC (.ref C)) tNil))) ρ (.bl b) :=
  ev_cb (av_cons ha (av_cons ev_cls av_nil)) fun F H ex vs r Q q => by
    cases r with
    | cons r1 r =>
      cases r with
      | cons r2 r =>
        cases r1; cases r2; cases r
        exact ⟨D, b, rfl, rfl, e, .inl ⟨_, .ref C, rfl, fun u h => h, hk, q _ F H (.refl ex) (.bl b)⟩⟩
theorem ev_isT {a D : Addr} {b : Bool} {nm : String} (ha : EvD K ta ρ (.cls a)) (e : ExcC K D) (hk : PySem.W.kitOne K (.ref D) (.type nm) = some b) : EvD K (tCB (rIsY K a (.ref D) none) (tCons ta (tCons (tC (.ty nm)) tNil))) ρ (.bl b) :=
  ev_cb (av_cons ha (av_cons ev_ty av_nil)) fun F H ex vs r Q q => by
    cases r with
    | cons r1 r =>
      cases r with
      | cons r2 r =>
        cases r1; cases r2; cases r
        exact ⟨D, b, rfl, rfl, e, .inl ⟨_, .type nm, rfl, fun u h => h, hk, q _ F H (.refl ex) (.bl b)⟩⟩
theorem reps_cls {F : Hp} : ∀ {vs : List V} {cs : List Addr}, Reps K F vs (cs.map D.cls) → vs = cs.map V.ref
  | vs, [], h => by cases h; rfl
  | vs, c :: cs, h => by
    cases h with
    | cons h r =>
      cases h
      rw [reps_cls r]; rfl
theorem ev_isN {a C : Addr} {b : Bool} {cs : List Addr} (ha : EvD K ta ρ (.cls a)) (e : ExcC K C) (ht : EvD K tb ρ (.tup (cs.map D.cls))) (hk : PySem.W.kitAny K (.ref C) (cs.map Value.ref) = some b) : EvD K (tCB (rIsY K a (.ref C) none) (tCons ta (tCons tb tNil))) ρ (.bl b) :=
  ev_cb (av_cons ha (av_cons ht av_nil)) fun F H ex vs r Q q => by
    cases r with
    | cons r1 r =>
      cases r with
      | cons r2 r =>
        cases r1; cases r
        cases r2 with
        | tup h rs =>
          rw [reps_cls rs] at h
          exact ⟨C, b, rfl, rfl, e, .inr ⟨_, cs, rfl, ex _ _ h, hk, q _ F H (.refl ex) (.bl b)⟩⟩
theorem ev_callY {fr : Addr → Addr → List D → Res → Prop} {a : Addr} {Es : L2.St → XK} (h : AvD K tg ρ ds) (hf : fr a C ds (.ok d)) (hn : ds.length = n := by rfl) : EvD K (tCallS (SpY K n fr a (.ref C) none) Es tg) ρ d := fun F0 H0 F H σ R Q q =>
  h F0 H0 F H σ R _ fun vs F1 H1 g1 r1 => ⟨C, rfl, rfl, F1, ds, .ok d, g1.s, r1, by rw [r1.length]; exact hn, hf, fun v F2 H2 g2 r2 => q v F2 H2 (g1.trans g2) r2⟩
/-- all classes of a tuple -/
theorem av_clss : ∀ (cs : List Addr), AvD K (cs.foldr (fun c t => tCons (tC (.ref c)) t) tNil) ρ (cs.map D.cls)
  | [] => av_nil
  | c :: cs => av_cons ev_cls (av_clss cs)
theorem ev_gcd {i j : Int} (ha : EvD K ta ρ (.int i)) (hb : EvD K tb ρ (.int j)) : EvD K (tCB rGcd (tCons ta (tCons tb tNil))) ρ (.int ((Nat.gcd i.natAbs j.natAbs : Nat) : Int)) := ev_cb (av_cons ha (av_cons hb av_nil)) fun F H e vs r Q q => by
  cases r with
  | cons a r =>
    cases r with
    | cons b r =>
      cases a; cases b; cases r
      exact ⟨i, j, rfl, q _ F H (.refl e) (.int _)⟩
end
end DL
namespace DL
open PySem PySem.Spec PyProof.Rows L2
/-- a name is given a comprehension over a dict that is locked meanwhile -/
theorem sv_lockAsg {K : PySem.W.Frag} {W : WX} {te : TE} {i : Nat} {ρ : List Sl} {o : Out} (h : SvD K W (tAsg (tLockEA te) (gName i)) ρ o) : SvD K W (tLockA (tAsg te (gName i))) ρ o := fun E F0 H0 F H σ R p => h E F0 H0 F H σ R p
/-- len of a dict -/
theorem ev_minL {K : PySem.W.Frag} {te : TE} {ρ : List Sl} {ns : List Int} {m : Int} (h : EvSL K te ρ (ns.map D.int)) (hm : m ∈ ns) (hy : ∀ y ∈ ns, m ≤ y) : EvD K (tCB (rMin K) (tCons te tNil)) ρ (.int m) := ev_cbSL h fun F H e p vs s r Q q => by
  have e1 := r.ints_inv
  subst e1
  refine ⟨p, ns, rfl, s, List.length_pos_of_mem hm, fun m' h1 h2 => ?_⟩
  have a := hy m' h1
  have b := h2 m hm
  have : m' = m := by omega
  subst this
  exact q _ F H (.refl e) (.int _)
end DL
namespace DL
open PySem PySem.Spec PyProof.Rows L2
/-- len of a dict, locked or not -/
def rLenD : List V → Hp → VK → Prop := fun xs H Q => ∃ a : Addr, xs = [.ref a] ∧ ((∃ ws : List (Key × V), Rd H a (.dK ws) ∧ Q (.int ((ws.length : Nat) : Int)) H) ∨ ∃ ws : List (List Key × V), Rd H a (.dT ws) ∧ Q (.int ((ws.length : Nat) : Int)) H)
theorem cr_lenD {X : Cx} : CallR X (.builtin "len") rLenD := by
  intro pins s σ H xs us Q I r h
  obtain ⟨a, rfl, h⟩ := h
  obtain ⟨u, rfl, rx⟩ := vals1 r
  obtain rfl : u = .ref a := rx
  rcases h with ⟨ws, hp, q⟩ | ⟨ws, hp, q⟩
  · exact d_len I hp fun t s' I' => ⟨.int ws.length, H, I', ⟨t, rfl⟩, q⟩
  · obtain ⟨z, hd, ys, rel, dd⟩ := dt_rd I.hok hp
    have hl : ws.length = ys.length := Paired.length rel
    refine call_len_dictH hd dd (by rw [← hl]; rw [sizeLine_eq] at z; omega) ?_
    rw [← hl]
    exact ⟨.int ((ws.length : Nat) : Int), H, I.tok _, ⟨_, rfl⟩, q⟩
theorem ev_lenDT {K : PySem.W.Frag} {te : TE} {ρ : List Sl} {kvs : List (List Key × D)} (h : EvDT K te ρ kvs) : EvD K (tCB rLenD (tCons te tNil)) ρ (.int (kvs.length : Int)) := fun F0 H0 F H σ R Q q =>
  h F0 H0 F H σ R _ fun a ws F1 H1 g1 s1 r1 => ⟨a, rfl, .inr ⟨ws, s1, by rw [r1.length]; exact q _ F1 H1 g1 (.int _)⟩⟩
theorem ev_lenDK {K : PySem.W.Frag} {te : TE} {ρ : List Sl} {kvs : List (Key × D)} (h : EvDK K te ρ kvs) : EvD K (tCB rLenD (tCons te tNil)) ρ (.int (kvs.length : Int)) := fun F0 H0 F H σ R Q q =>
  h F0 H0 F H σ R _ fun a ws F1 H1 g1 s1 r1 => ⟨a, rfl, .inl ⟨ws, s1, by rw [r1.length]; exact q _ F1 H1 g1 (.int _)⟩⟩
end DL
set_option Elab.async false
set_option linter.all false
set_option maxRecDepth 100000
set_option maxHeartbeats 2000000
/-! The head by facts: defs, classes, built-ins of other modules; a law's end over it. -/
namespace DL
open PySem PySem.Spec PyProof.Rows L2
/-! ### facts beside the library's -/
def ifTrue (o : Option Bool) : Bool := match o with
  | some b => b
  | none => false
theorem ifTrue_ok {o : Option Bool} (h : ifTrue o = true) : o = some true := by
  cases o with
  | none => cases h
  | some b =>
    have e : b = true := h
    rw [e]
def ifFalse (o : Option Bool) : Bool := match o with
  | some b => !b
  | none => false
theorem ifFalse_ok {o : Option Bool} (h : ifFalse o = true) : o = some false := by
  cases o with
  | none => cases h
  | some b =>
    cases b with
    | false => rfl
    | true => cases h
/-- isinstance asks instances of the class C rightly -/
def excB (K : PySem.W.Frag) (C : Addr) : Bool :=
  He.eqO (PySem.W.findIn K (.ref C) "__getattribute__") (some (some (.builtin "BaseException.__getattribute__"))) && (He.eqO (PySem.W.findIn K (.ref C) "__getattr__") (some none) &&
  (ifTrue (PySem.W.subIn K (.ref C) (.type "BaseException")) && (PySem.W.hasDictIn K C && (He.eqO (PySem.W.findIn K (.ref C) "__class__") (some (some (.builtin "object.__class__"))) &&
  (He.eqO (PySem.W.specialIn K (.builtin "object.__class__") "__get__") (some (some (.builtin "getset_descriptor.__get__"))) && (ifTrue (PySem.W.takesIn K (.builtin "object.__class__")) && ifTrue (PySem.W.mroIn K C (.type "object"))))))))
theorem excB_ok {K : PySem.W.Frag} {C : Addr} (h : excB K C = true) : ExcC K C := by
  obtain ⟨h1, h⟩ := He.ba h
  obtain ⟨h2, h⟩ := He.ba h
  obtain ⟨h3, h⟩ := He.ba h
  obtain ⟨h4, h⟩ := He.ba h
  obtain ⟨h5, h⟩ := He.ba h
  obtain ⟨h6, h⟩ := He.ba h
  obtain ⟨h7, h8⟩ := He.ba h
  exact ⟨He.eqO_ok h1, He.eqO_ok h2, ifTrue_ok h3, h4, He.eqO_ok h5, He.eqO_ok h6, ifTrue_ok h7, ifTrue_ok h8⟩
/-- the module's name x stands for a built-in function -/
def gloB (K : PySem.W.Frag) (x : Str) (id : String) : Bool := He.eqO (PySem.W.nsIn K mainGlobals x) (some (some (.builtin id)))
theorem gloB_ok {K : PySem.W.Frag} {h : Heap} {mg : Str → Option Value} (X : K.In h) (G : h.Ns mainGlobals mg) {x : Str} {id : String} (c : gloB K x id = true) : mg x = some (.builtin id) := PySem.W.mg_of X G (He.eqO_ok c)
/-! ### the Hook -/
abbrev AlF : Type := He.AlD × Bool
def obsF (fa : List He.Fa) (fn : List He.DefD) (ex : PySem.W.Frag → Bool) (K : PySem.W.Frag) : AlF := (He.obsD fa fn K, ex K)
def obsFG (n : Nat) (fa : List He.Fa) (fn : List He.DefD) (ex : PySem.W.Frag → Bool) (g : Addr → Option Obj) : AlF := obsF fa fn ex (He.frG g (He.asD g n))
def SaysF (fa : List He.Fa) (fn : List He.DefD) (ex : PySem.W.Frag → Bool) (K : PySem.W.Frag) : Prop := He.SaysD fa fn K ∧ ex K = true
def hookF (n : Nat) (fa : List He.Fa) (fn : List He.DefD) (ex : PySem.W.Frag → Bool) : PySem.W.Hook where
  α := AlF
  obs := fun s => obsFG n fa fn ex s.heap.get?
  val := fun _ => (He.valD fn, true)
  says := fun _ h => ∃ K : PySem.W.Frag, K.In h ∧ SaysF fa fn ex K
  of := fun _ s e => ⟨_, He.frG_in, (Prod.mk.inj e).1, (Prod.mk.inj e).2⟩
  keeps := fun _ _ _ ⟨K, hK, c⟩ k => ⟨K, PySem.W.Frag.In.keeps hK k, c⟩
theorem obsF_eq {n : Nat} {fa : List He.Fa} {fn : List He.DefD} {ex : PySem.W.Frag → Bool} {g : Addr → Option Obj} {s : Shared} (h : ∀ a, g a = s.heap.get? a) : obsFG n fa fn ex g = (hookF n fa fn ex).obs s := by
  have e : g = s.heap.get? := funext h
  rw [e] <;> rfl
/-! ### defs -/
/-- a def of the module, no defaults -/
def defD (x : Str) (st : Stmt) : He.DefD := ⟨(x, none), x, x, defArgs st, defBody st, defScope st, [], []⟩
section
variable {K : PySem.W.Frag} {h : Heap} {mg : Str → Option Value} {x : Str} {st : Stmt} {fd : FuncData} {f : Addr}
theorem fun_ofD (F : FunD K x x (defArgs st) (defBody st) (defScope st) [] [] f fd) : Fun K x x st f fd := by
  obtain ⟨oc, od, dV, kV, doc, pm, an, cdv, ct, osl, rfl, lk, hcd, hD, _⟩ := F.ex
  rcases hD with ⟨_, rfl⟩ | ⟨e, _⟩
  · exact ⟨⟨oc, od, kV, doc, pm, an, cdv, ct, osl, rfl, lk, hcd⟩, F.kp⟩
  · exact absurd rfl e
theorem funAt_of {fa : List He.Fa} {fn : List He.DefD} (X : K.In h) (G : h.Ns mainGlobals mg) (c : He.SaysD fa fn K) (i j : Nat) (hd : fn[i]? = some (defD x st)) (hf : fa[j]? = some (.glo x)) (ps : List Str)
    (hb : ∀ (kV doc pm : Value) (an : Option Addr) (cdv ct : Value) (us : List Value), us.length = ps.length → bindArgs (PySem.W.fnOf x x (defArgs st) (defBody st) (defScope st) .none kV doc pm an cdv ct) ⟨us, []⟩ = pure (ps.zip us)) : FunAt K mg x st ps := by
  obtain ⟨fd, F⟩ := c.def_ i hd
  exact ⟨_, fd, He.glo_ok X G (c.fact j hf), fun_ofD F, F.bindsN hb⟩
end
/-! ### the end -/
theorem walk_ofW {l : PySem.W.OpenLaw} {n k : Nat} {q : Program} {loose : List Str} {XP : (Str → Option Value) → Heap → Prop} {YP : World → Heap → Prop} {d : DefRec} {CX : World → CXT} {x : Str} (hn : l.most = some n) (hn2 : n ≤ sizeLine)
    (hdf : d.params.defaults = []) (hr : Room k callerA)
    (F : ∀ (w : World) (mg : Str → Option Value) (f : Addr) (h : Heap), YP w h → h.Ns mainGlobals mg → mg d.name = some (.ref f) → ∃ (K : PySem.W.Frag) (fd : FuncData) (sp : Sp),
        K.In h ∧ (∀ (s : Shared) (u : Value), BindsTo s fd ⟨[u], []⟩ [(x, u)]) ∧ (∀ (H : Hp) (a : Addr) (ns : List Int), ns.length ≤ n → SqL K H a (ns.map V.int) → sp [.ref a] H (fun v _ => v = .bl true) fun _ _ _ => False) ∧
          ∀ base : Heap, K.In base → base.Ns mainGlobals mg → FnOk l.prog w K mg base (CX w) k f fd [x] sp)
    (hCX : ∀ (w : World) (H : Hp) (s : Shared) (e : Value) (s' : Shared), CX w [] H s (fun _ _ _ => False) e s' → False) : PySem.W.WalkO q loose XP YP l.row.toRowW d [] (fun f vs => PySem.call f vs) := by
  refine Att.attach_call hn hdf fun w s0 s1 mg mb f o pm cd doc a vs ns G Y ho hd hcd hmg hobj hints hlen hg => ?_
  obtain ⟨K, fd, sp, X, hb, hsp, hF⟩ := F w mg f _ Y G.T.g hmg
  refine law_call X G.T.g G.T.b G.T.builtins G.T.nolimit hg hobj hints (Nat.le_trans hlen hn2) hr hF hb (fun H _ hS => hsp H a ns hlen hS) fun H e s' => hCX w H s1 e s'
end DL
set_option Elab.async false
set_option linter.all false
set_option maxRecDepth 100000
set_option maxHeartbeats 0
namespace Go
open PySem PySem.Spec PyProof.Rows L2 DL
structure Bt (K : PySem.W.Frag) (mg : Str → Option Value) : Prop where
  b_ValueError : mg "ValueError" = none
  b_abs : mg "abs" = none
  b_bool : mg "bool" = none
  b_int : mg "int" = none
  b_isinstance : mg "isinstance" = none
  b_len : mg "len" = none
  b_list : mg "list" = none
  b_max : mg "max" = none
  b_min : mg "min" = none
  b_range : mg "range" = none
  b_sorted : mg "sorted" = none
  b_tuple : mg "tuple" = none
  g_BadName : mg "BadName" = some (.ref (He.ga K "BadName"))
  g_BadNotation : mg "BadNotation" = some (.ref (He.ga K "BadNotation"))
  g_BadParts : mg "BadParts" = some (.ref (He.ga K "BadParts"))
  g_BadStretch : mg "BadStretch" = some (.ref (He.ga K "BadStretch"))
  g_Barred : mg "Barred" = some (.ref (He.ga K "Barred"))
  g_BreaksOwnRule : mg "BreaksOwnRule" = some (.ref (He.ga K "BreaksOwnRule"))
  g_Broken : mg "Broken" = some (.ref (He.ga K "Broken"))
  g_CannotStand : mg "CannotStand" = some (.ref (He.ga K "CannotStand"))
  g_Contradiction : mg "Contradiction" = some (.ref (He.ga K "Contradiction"))
  g_NoFamilies : mg "NoFamilies" = some (.ref (He.ga K "NoFamilies"))
  g_NoQuotient : mg "NoQuotient" = some (.ref (He.ga K "NoQuotient"))
  g_NoRows : mg "NoRows" = some (.ref (He.ga K "NoRows"))
  g_NotBlocked : mg "NotBlocked" = some (.ref (He.ga K "NotBlocked"))
  g_NotCourse : mg "NotCourse" = some (.ref (He.ga K "NotCourse"))
  g_NotEntered : mg "NotEntered" = some (.ref (He.ga K "NotEntered"))
  g_NotFinite : mg "NotFinite" = some (.ref (He.ga K "NotFinite"))
  g_NotFree : mg "NotFree" = some (.ref (He.ga K "NotFree"))
  g_NotLet : mg "NotLet" = some (.ref (He.ga K "NotLet"))
  g_NotStricter : mg "NotStricter" = some (.ref (He.ga K "NotStricter"))
  g_NotTimely : mg "NotTimely" = some (.ref (He.ga K "NotTimely"))
  g_NothingToUndo : mg "NothingToUndo" = some (.ref (He.ga K "NothingToUndo"))
  g_RowError : mg "RowError" = some (.ref (He.ga K "RowError"))
  g_RowTwice : mg "RowTwice" = some (.ref (He.ga K "RowTwice"))
  g_RowsDiffer : mg "RowsDiffer" = some (.ref (He.ga K "RowsDiffer"))
  g_ShortStretch : mg "ShortStretch" = some (.ref (He.ga K "ShortStretch"))
  g_SpotTwice : mg "SpotTwice" = some (.ref (He.ga K "SpotTwice"))
  g_TooLong : mg "TooLong" = some (.ref (He.ga K "TooLong"))
  g_UnknownRow : mg "UnknownRow" = some (.ref (He.ga K "UnknownRow"))
  g_Unsure : mg "Unsure" = some (.ref (He.ga K "Unsure"))
  g_ZeroPolynomial : mg "ZeroPolynomial" = some (.ref (He.ga K "ZeroPolynomial"))
  g_ZeroSum : mg "ZeroSum" = some (.ref (He.ga K "ZeroSum"))
  g_gcd : mg "gcd" = some (.builtin "math.gcd")
  e_ZeroPolynomial : ErrF K (He.ga K "ZeroPolynomial")
abbrev W0 : WX := fun _ _ _ _ => False
abbrev topS (i : Nat) : Stmt := (PySem.Challenge.pw_joinpast_k01_polynomial_forms).main.body.getD i (.Pass ⟨0, 0, 0, 0⟩)
abbrev scleaned : Stmt := topS 34
abbrev Ncleaned : List Str := ["pairs", "found", "shift", "coefficient"]
abbrev Pcleaned : List Str := ["pairs"]
theorem sccleaned : FnScope Ncleaned Pcleaned (defScope scleaned) := ⟨rfl, rfl, rfl, by decide +kernel, rfl, by decide +kernel, by decide +kernel⟩
abbrev sproduct_of : Stmt := topS 35
abbrev Nproduct_of : List Str := ["p", "q", "by", "factor", "shift", "coefficient"]
abbrev Pproduct_of : List Str := ["p", "q"]
theorem scproduct_of : FnScope Nproduct_of Pproduct_of (defScope sproduct_of) := ⟨rfl, rfl, rfl, by decide +kernel, rfl, by decide +kernel, by decide +kernel⟩
abbrev sspread : Stmt := topS 36
abbrev Nspread : List Str := ["p"]
abbrev Pspread : List Str := ["p"]
theorem scspread : FnScope Nspread Pspread (defScope sspread) := ⟨rfl, rfl, rfl, by decide +kernel, rfl, by decide +kernel, by decide +kernel⟩
abbrev scontent : Stmt := topS 37
abbrev Ncontent : List Str := ["p", "shared", "_", "coefficient"]
abbrev Pcontent : List Str := ["p"]
theorem sccontent : FnScope Ncontent Pcontent (defScope scontent) := ⟨rfl, rfl, rfl, by decide +kernel, rfl, by decide +kernel, by decide +kernel⟩
abbrev snormal : Stmt := topS 38
abbrev Nnormal : List Str := ["p", "shared", "shift", "coefficient"]
abbrev Pnormal : List Str := ["p"]
theorem scnormal : FnScope Nnormal Pnormal (defScope snormal) := ⟨rfl, rfl, rfl, by decide +kernel, rfl, by decide +kernel, by decide +kernel⟩
abbrev spolynomial : Stmt := topS 40
abbrev Npolynomial : List Str := ["pairs"]
abbrev Ppolynomial : List Str := ["pairs"]
theorem scpolynomial : FnScope Npolynomial Ppolynomial (defScope spolynomial) := ⟨rfl, rfl, rfl, by decide +kernel, rfl, by decide +kernel, by decide +kernel⟩
abbrev snormal_polynomial : Stmt := topS 41
abbrev Nnormal_polynomial : List Str := ["p"]
abbrev Pnormal_polynomial : List Str := ["p"]
theorem scnormal_polynomial : FnScope Nnormal_polynomial Pnormal_polynomial (defScope snormal_polynomial) := ⟨rfl, rfl, rfl, by decide +kernel, rfl, by decide +kernel, by decide +kernel⟩
abbrev sspan : Stmt := topS 42
abbrev Nspan : List Str := ["p", "plain"]
abbrev Pspan : List Str := ["p"]
theorem scspan : FnScope Nspan Pspan (defScope sspan) := ⟨rfl, rfl, rfl, by decide +kernel, rfl, by decide +kernel, by decide +kernel⟩
abbrev spoly_plus : Stmt := topS 43
abbrev Npoly_plus : List Str := ["p", "q"]
abbrev Ppoly_plus : List Str := ["p", "q"]
theorem scpoly_plus : FnScope Npoly_plus Ppoly_plus (defScope spoly_plus) := ⟨rfl, rfl, rfl, by decide +kernel, rfl, by decide +kernel, by decide +kernel⟩
abbrev spoly_times : Stmt := topS 44
abbrev Npoly_times : List Str := ["p", "q"]
abbrev Ppoly_times : List Str := ["p", "q"]
theorem scpoly_times : FnScope Npoly_times Ppoly_times (defScope spoly_times) := ⟨rfl, rfl, rfl, by decide +kernel, rfl, by decide +kernel, by decide +kernel⟩
abbrev s_law_whole : Stmt := topS 46
abbrev N_law_whole : List Str := ["value"]
abbrev P_law_whole : List Str := ["value"]
theorem sc_law_whole : FnScope N_law_whole P_law_whole (defScope s_law_whole) := ⟨rfl, rfl, rfl, by decide +kernel, rfl, by decide +kernel, by decide +kernel⟩
abbrev s_law_cell : Stmt := topS 47
abbrev N_law_cell : List Str := ["script", "k", "seed", "cell"]
abbrev P_law_cell : List Str := ["script", "k"]
theorem sc_law_cell : FnScope N_law_cell P_law_cell (defScope s_law_cell) := ⟨rfl, rfl, rfl, by decide +kernel, rfl, by decide +kernel, by decide +kernel⟩
abbrev s_law_digits : Stmt := topS 48
abbrev N_law_digits : List Str := ["cell", "sizes", "row", "rest", "size", "seed", "k", "twice"]
abbrev P_law_digits : List Str := ["cell", "sizes"]
theorem sc_law_digits : FnScope N_law_digits P_law_digits (defScope s_law_digits) := ⟨rfl, rfl, rfl, by decide +kernel, rfl, by decide +kernel, by decide +kernel⟩
abbrev s_law_gcd : Stmt := topS 49
abbrev N_law_gcd : List Str := ["a", "b", "one", "two", "turn", "rest"]
abbrev P_law_gcd : List Str := ["a", "b"]
theorem sc_law_gcd : FnScope N_law_gcd P_law_gcd (defScope s_law_gcd) := ⟨rfl, rfl, rfl, by decide +kernel, rfl, by decide +kernel, by decide +kernel⟩
abbrev s_law_poly : Stmt := topS 50
abbrev N_law_poly : List Str := ["pairs", "p", "pair", "told", "shift"]
abbrev P_law_poly : List Str := ["pairs"]
theorem sc_law_poly : FnScope N_law_poly P_law_poly (defScope s_law_poly) := ⟨rfl, rfl, rfl, by decide +kernel, rfl, by decide +kernel, by decide +kernel⟩
abbrev s_law_add : Stmt := topS 51
abbrev N_law_add : List Str := ["p", "q", "c", "shift"]
abbrev P_law_add : List Str := ["p", "q", "c"]
theorem sc_law_add : FnScope N_law_add P_law_add (defScope s_law_add) := ⟨rfl, rfl, rfl, by decide +kernel, rfl, by decide +kernel, by decide +kernel⟩
abbrev s_law_mul : Stmt := topS 52
abbrev N_law_mul : List Str := ["p", "q", "made", "one", "two"]
abbrev P_law_mul : List Str := ["p", "q"]
theorem sc_law_mul : FnScope N_law_mul P_law_mul (defScope s_law_mul) := ⟨rfl, rfl, rfl, by decide +kernel, rfl, by decide +kernel, by decide +kernel⟩
abbrev s_law_pairs : Stmt := topS 53
abbrev N_law_pairs : List Str := ["p", "shift"]
abbrev P_law_pairs : List Str := ["p"]
theorem sc_law_pairs : FnScope N_law_pairs P_law_pairs (defScope s_law_pairs) := ⟨rfl, rfl, rfl, by decide +kernel, rfl, by decide +kernel, by decide +kernel⟩
abbrev s_law_normal : Stmt := topS 54
abbrev N_law_normal : List Str := ["p", "shifts", "part", "shift", "told"]
abbrev P_law_normal : List Str := ["p"]
theorem sc_law_normal : FnScope N_law_normal P_law_normal (defScope s_law_normal) := ⟨rfl, rfl, rfl, by decide +kernel, rfl, by decide +kernel, by decide +kernel⟩
abbrev s_law_is_poly : Stmt := topS 55
abbrev N_law_is_poly : List Str := ["value", "pair", "k"]
abbrev P_law_is_poly : List Str := ["value"]
theorem sc_law_is_poly : FnScope N_law_is_poly P_law_is_poly (defScope s_law_is_poly) := ⟨rfl, rfl, rfl, by decide +kernel, rfl, by decide +kernel, by decide +kernel⟩
abbrev s_law_coefficient : Stmt := topS 56
abbrev N_law_coefficient : List Str := ["kind", "a", "b"]
abbrev P_law_coefficient : List Str := ["kind", "a", "b"]
theorem sc_law_coefficient : FnScope N_law_coefficient P_law_coefficient (defScope s_law_coefficient) := ⟨rfl, rfl, rfl, by decide +kernel, rfl, by decide +kernel, by decide +kernel⟩
abbrev s_law_drawn : Stmt := topS 57
abbrev N_law_drawn : List Str := ["row", "menu", "many", "wide", "pairs", "k", "digits", "shift", "factor", "pair"]
abbrev P_law_drawn : List Str := ["row"]
theorem sc_law_drawn : FnScope N_law_drawn P_law_drawn (defScope s_law_drawn) := ⟨rfl, rfl, rfl, by decide +kernel, rfl, by decide +kernel, by decide +kernel⟩
abbrev s_law_passed : Stmt := topS 58
abbrev N_law_passed : List Str := ["pairs", "form", "pair", "mixed"]
abbrev P_law_passed : List Str := ["pairs", "form"]
theorem sc_law_passed : FnScope N_law_passed P_law_passed (defScope s_law_passed) := ⟨rfl, rfl, rfl, by decide +kernel, rfl, by decide +kernel, by decide +kernel⟩
abbrev s_law_other_pairs : Stmt := topS 59
abbrev N_law_other_pairs : List Str := ["pairs", "digit", "halves", "pair", "k"]
abbrev P_law_other_pairs : List Str := ["pairs", "digit"]
theorem sc_law_other_pairs : FnScope N_law_other_pairs P_law_other_pairs (defScope s_law_other_pairs) := ⟨rfl, rfl, rfl, by decide +kernel, rfl, by decide +kernel, by decide +kernel⟩
abbrev s_law_another : Stmt := topS 60
abbrev N_law_another : List Str := ["e"]
abbrev P_law_another : List Str := ["e"]
theorem sc_law_another : FnScope N_law_another P_law_another (defScope s_law_another) := ⟨rfl, rfl, rfl, by decide +kernel, rfl, by decide +kernel, by decide +kernel⟩
abbrev s_law_spanless : Stmt := topS 61
abbrev N_law_spanless : List Str := ["one", "seen", "e"]
abbrev P_law_spanless : List Str := ["one"]
theorem sc_law_spanless : FnScope N_law_spanless P_law_spanless (defScope s_law_spanless) := ⟨rfl, rfl, rfl, by decide +kernel, rfl, by decide +kernel, by decide +kernel⟩
abbrev s_law_is : Stmt := topS 62
abbrev N_law_is : List Str := ["told", "due"]
abbrev P_law_is : List Str := ["told", "due"]
theorem sc_law_is : FnScope N_law_is P_law_is (defScope s_law_is) := ⟨rfl, rfl, rfl, by decide +kernel, rfl, by decide +kernel, by decide +kernel⟩
abbrev s_law_alone : Stmt := topS 63
abbrev N_law_alone : List Str := ["one", "mine", "told"]
abbrev P_law_alone : List Str := ["one", "mine"]
theorem sc_law_alone : FnScope N_law_alone P_law_alone (defScope s_law_alone) := ⟨rfl, rfl, rfl, by decide +kernel, rfl, by decide +kernel, by decide +kernel⟩
abbrev s_law_right : Stmt := topS 64
abbrev N_law_right : List Str := ["one", "two", "mine", "other"]
abbrev P_law_right : List Str := ["one", "two", "mine", "other"]
theorem sc_law_right : FnScope N_law_right P_law_right (defScope s_law_right) := ⟨rfl, rfl, rfl, by decide +kernel, rfl, by decide +kernel, by decide +kernel⟩
abbrev s_law_next : Stmt := topS 65
abbrev N_law_next : List Str := ["op", "told", "value", "due", "mine", "both"]
abbrev P_law_next : List Str := ["op", "told", "value", "due", "mine"]
theorem sc_law_next : FnScope N_law_next P_law_next (defScope s_law_next) := ⟨rfl, rfl, rfl, by decide +kernel, rfl, by decide +kernel, by decide +kernel⟩
abbrev slaw : Stmt := topS 66
abbrev Nlaw : List Str := ["script", "many", "told", "due", "last", "same", "k", "sizes", "row", "pairs", "mine", "value", "again", "step"]
abbrev Plaw : List Str := ["script"]
theorem sclaw : FnScope Nlaw Plaw (defScope slaw) := ⟨rfl, rfl, rfl, by decide +kernel, rfl, by decide +kernel, by decide +kernel⟩
def fnL : List He.DefD := [defD "cleaned" scleaned, defD "product_of" sproduct_of, defD "spread" sspread, defD "content" scontent, defD "normal" snormal, defD "polynomial" spolynomial, defD "normal_polynomial" snormal_polynomial, defD "span" sspan, defD "poly_plus" spoly_plus, defD "poly_times" spoly_times, defD "_law_whole" s_law_whole, defD "_law_cell" s_law_cell, defD "_law_digits" s_law_digits, defD "_law_gcd" s_law_gcd, defD "_law_poly" s_law_poly, defD "_law_add" s_law_add, defD "_law_mul" s_law_mul, defD "_law_pairs" s_law_pairs, defD "_law_normal" s_law_normal, defD "_law_is_poly" s_law_is_poly, defD "_law_coefficient" s_law_coefficient, defD "_law_drawn" s_law_drawn, defD "_law_passed" s_law_passed, defD "_law_other_pairs" s_law_other_pairs, defD "_law_another" s_law_another, defD "_law_spanless" s_law_spanless, defD "_law_is" s_law_is, defD "_law_alone" s_law_alone, defD "_law_right" s_law_right, defD "_law_next" s_law_next, defD "law" slaw]
def faL : List He.Fa := [.glo "cleaned", .glo "product_of", .glo "spread", .glo "content", .glo "normal", .glo "polynomial", .glo "normal_polynomial", .glo "span", .glo "poly_plus", .glo "poly_times", .glo "_law_whole", .glo "_law_cell", .glo "_law_digits", .glo "_law_gcd", .glo "_law_poly", .glo "_law_add", .glo "_law_mul", .glo "_law_pairs", .glo "_law_normal", .glo "_law_is_poly", .glo "_law_coefficient", .glo "_law_drawn", .glo "_law_passed", .glo "_law_other_pairs", .glo "_law_another", .glo "_law_spanless", .glo "_law_is", .glo "_law_alone", .glo "_law_right", .glo "_law_next", .glo "law", .free "ValueError", .free "abs", .free "bool", .free "int", .free "isinstance", .free "len", .free "list", .free "max", .free "min", .free "range", .free "sorted", .free "tuple", .glo "BadName", .glo "BadNotation", .glo "BadParts", .glo "BadStretch", .glo "Barred", .glo "BreaksOwnRule", .glo "Broken", .glo "CannotStand", .glo "Contradiction", .glo "NoFamilies", .glo "NoQuotient", .glo "NoRows", .glo "NotBlocked", .glo "NotCourse", .glo "NotEntered", .glo "NotFinite", .glo "NotFree", .glo "NotLet", .glo "NotStricter", .glo "NotTimely", .glo "NothingToUndo", .glo "RowError", .glo "RowTwice", .glo "RowsDiffer", .glo "ShortStretch", .glo "SpotTwice", .glo "TooLong", .glo "UnknownRow", .glo "Unsure", .glo "ZeroPolynomial", .glo "ZeroSum", .exc "ZeroPolynomial"]
def exL (K : PySem.W.Frag) : Bool := gloB K "gcd" "math.gcd" && (excB K (He.ga K "ZeroPolynomial") && (ifTrue (PySem.W.exmOne K (.ref (He.ga K "ZeroPolynomial")) (.ref (He.ga K "ZeroPolynomial"))) && (ifTrue (PySem.W.exmOne K (.ref (He.ga K "ZeroPolynomial")) (.ref (He.ga K "RowError"))) && (ifTrue (PySem.W.kitOne K (.ref (He.ga K "ZeroPolynomial")) (.ref (He.ga K "RowError"))) && (ifTrue (PySem.W.kitOne K (.ref (He.ga K "ZeroPolynomial")) (.type "ValueError")) && (ifTrue (PySem.W.kitOne K (.ref (He.ga K "ZeroPolynomial")) (.ref (He.ga K "ZeroPolynomial"))) && (ifFalse (PySem.W.kitAny K (.ref (He.ga K "ZeroPolynomial")) ((["BadName", "BadNotation", "BadParts", "BadStretch", "Barred", "BreaksOwnRule", "Broken", "CannotStand", "Contradiction", "NoFamilies", "NoQuotient", "NoRows", "NotBlocked", "NotCourse", "NotEntered", "NotFinite", "NotFree", "NotLet", "NotStricter", "NotTimely", "NothingToUndo", "RowTwice", "RowsDiffer", "ShortStretch", "SpotTwice", "TooLong", "UnknownRow", "Unsure", "ZeroSum"] : List Str).map fun x => .ref (He.ga K x))))))))))
abbrev hkL : PySem.W.Hook := hookF 4 faL fnL exL
def obL (s : PySem.W.SharedT) : AlF := obsFG 4 faL fnL exL (HandSHeadRun.getT s)
theorem obL_eq (s : PySem.W.SharedT) : obL s = hkL.obs s.abs := obsF_eq (HandSHeadRun.getT_eq s)
abbrev RL : PySem.W.OpenRow := PySem.W.OpenLaw.row PySem.Challenge.rw_joinpast_k01_polynomial_forms
def looseL0 : List Str := ["RowError", "NoQuotient", "ZeroPolynomial", "ZeroSum", "NoRows", "BadName", "RowTwice", "UnknownRow", "RowsDiffer", "SpotTwice", "BadStretch", "ShortStretch", "TooLong", "CannotStand", "Broken", "NotFinite", "BadParts", "Barred", "NotCourse", "BreaksOwnRule", "NotBlocked", "Unsure", "Contradiction", "NotStricter", "NoFamilies", "NotLet", "NotFree", "NotTimely", "NotEntered", "NothingToUndo"]
def looseL1 : List Str := ["BadNotation", "cleaned", "product_of", "spread", "content", "normal", "polynomial", "normal_polynomial", "span", "poly_plus", "poly_times", "_law_whole", "_law_cell", "_law_digits", "_law_gcd", "_law_poly", "_law_add", "_law_mul", "_law_pairs", "_law_normal", "_law_is_poly", "_law_coefficient", "_law_drawn", "_law_passed", "_law_other_pairs", "_law_another", "_law_spanless", "_law_is", "_law_alone", "_law_right"]
def looseL2 : List Str := ["_law_next"]
def looseL : List Str := looseL0 ++ looseL1 ++ looseL2
theorem runL (w : World) : HandSHeadRun.RunEqI RL (PySem.W.view RL.prog [0, 66]) hkL obL 20000 looseL w := by
  unfold HandSHeadRun.RunEqI
  kernel_rfl
end Go
set_option Elab.async false
set_option linter.all false
set_option maxRecDepth 100000
set_option maxHeartbeats 1000000
/-! Comprehensions whose elements are told item by item. -/
namespace DL
open PySem PySem.Spec PyProof.Rows L2
section
variable {K : PySem.W.Frag} {W : WX} {ρ ρ' : List Sl} {te ta tb : TE} {d x y z : D} {xs ds zs : List D} {tt tu : TT} {t u : TS} {o : Out} {i : Nat}
theorem tv_yesD : TvD K tYes ρ true := fun F0 H0 F H σ R Q q => q F H (.refl R.ex)
theorem fm_take {α : Type} {l : List (Option α)} {i : Nat} {a : Option α} (h : l[i]? = some a) : (l.take (i + 1)).filterMap id = (l.take i).filterMap id ++ a.toList := by
  rw [List.take_add_one, List.filterMap_append, h]
  cases a <;> simp
theorem lc_atI {wi : TI} {g : TG} {vs : List Nat} {ys : List (Option D)} {F0 H0 F H : Hp} {σ : L2.St} (R : RelS K F0 H0 F H σ ρ) (hw : ∀ R' : It → Hp → Prop, (∀ J A F' H', Gr F H F' H' → Src K J ds A → A F' → R' J H') → wi σ H R')
    (hs : ∀ (i : Nat) (d : D) (r : Option D), ds[i]? = some d → ys[i]? = some r → Cmp1 K g tt te vs (wipeS ρ vs) d r) (hy : ys.length = ds.length) (hl : ds.length ≤ 16777215) {Q : VK} (q : ∀ p ws F' H', Gr F H F' H' → H p = none → F' p = none → H' p = some (.lst ws) → Reps K F' ws (ys.filterMap id) → Q (.ref p) H') : tLc wi g tt te vs σ H Q :=
  hw _ fun J A F1 H1 g1 src a1 => fun Dl hD => by
    have hD0 : H Dl = none := g1.h.back hD
    have hDF1 : F1 Dl = none := g1.s.back hD
    have hD00 : H0 Dl = none := R.gr.h.back hD0
    have Rw : RelS K F0 H0 F1 H1 (L2.wipe σ vs) (wipeS ρ vs) := (R.grow g1).wipe vs
    have fr := Rw.fresh hD
    refine ⟨fun i m H' => ∃ F' acc, m = ds.length - i ∧ i ≤ ds.length ∧ Gr F H F' H' ∧ RelS K F0 H0 F' H' (L2.wipe σ vs) (wipeS ρ vs) ∧ Ex F1 F' ∧ F' Dl = none ∧ H' Dl = some (.lst acc) ∧ Reps K F' acc ((ys.take i).filterMap id),
      ⟨ds.length, F1, [], rfl, Nat.zero_le _, g1.side hD0 hDF1, Rw.side hD00 hDF1 fr, Ex.refl F1, hDF1, upd_same, .nil⟩, ?_⟩
    rintro i m H' ⟨F', acc, rfl, hi, g', R', ex, hDF, hDH, ra⟩
    have a' := src.keep _ _ a1 ex
    by_cases hlt : i < ds.length
    · refine .inr ⟨src.go i F' H' hlt a' R'.ex, fun H2 => ∃ F2 acc, Gr F H F2 H2 ∧ RelS K F0 H0 F2 H2 (L2.wipe σ vs) (wipeS ρ vs) ∧ Ex F1 F2 ∧ F2 Dl = none ∧ H2 Dl = some (.lst acc) ∧ Reps K F2 acc ((ys.take (i + 1)).filterMap id),
        fun H2 ⟨F2, acc, x1, x2, x3, x4, x5, x6⟩ => ⟨ds.length - (i + 1), by omega, F2, acc, rfl, hlt, x1, x2, x3, x4, x5, x6⟩, fun x H2 y => ?_⟩
      obtain ⟨d, hd⟩ : ∃ d, ds[i]? = some d := ⟨ds[i], List.getElem?_eq_getElem hlt⟩
      obtain ⟨ri, hri⟩ : ∃ r, ys[i]? = some r := ⟨ys[i], List.getElem?_eq_getElem (by omega)⟩
      obtain ⟨F2, g2, rx⟩ := src.yld i F' H' x H2 d hd a' R'.ex y
      obtain ⟨is, ρ1, b, tg, sub, tv, ht, hf⟩ := hs i d ri hd hri
      refine tg.2 F0 H0 F2 H2 _ x (R'.grow g2) rx _ fun σ3 R3 l3 k3 => ⟨?_, ?_⟩
      · rw [wipe_same l3 k3 sub, wipe_wipe]
      · refine tv F0 H0 F2 H2 σ3 R3 _ fun F3 H3 g3 => ?_
        have gA := (g'.trans g2).trans g3
        have RA := (R'.grow g2).grow g3
        have nD : F3 Dl = none := g3.n _ _ (g2.h _ _ hDH) rfl (g2.n _ _ hDH rfl hDF)
        cases b with
        | false =>
          show ∃ F2 acc, _
          refine ⟨F3, acc, gA, RA, (ex.trans g2.f).trans g3.f, nD, g3.h _ _ (g2.h _ _ hDH), ?_⟩
          rw [fm_take hri, hf rfl]
          simpa using (ra.mono g2.f).mono g3.f
        | true =>
          obtain ⟨yv, ey, hy⟩ := ht rfl
          show te σ3 H3 _
          refine hy F0 H0 F3 H3 σ3 (R3.grow g3) _ fun v F4 H4 g4 r4 => ?_
          have nD4 : F4 Dl = none := g4.n _ _ (g3.h _ _ (g2.h _ _ hDH)) rfl nD
          have hD4 : H4 Dl = some (.lst acc) := g4.h _ _ (g3.h _ _ (g2.h _ _ hDH))
          have rA := ((ra.mono g2.f).mono g3.f).mono g4.f
          refine ⟨acc, hD4, ?_, F4, acc ++ [v], (gA.trans g4).side hD0 nD4, (RA.grow g4).side hD00 nD4 fr, ((ex.trans g2.f).trans g3.f).trans g4.f, nD4, upd_same, ?_⟩
          · rw [rA.length, sizeLine_eq]
            have l1 := List.length_filterMap_le id (ys.take i)
            have l2 := List.length_take_le i ys
            omega
          · rw [fm_take hri, ey]
            exact rA.append (.cons r4 .nil)
    · have e : i = ds.length := by omega
      subst e
      refine .inl ⟨src.stop _ _ a' R'.ex, q Dl acc F' H' g' hD0 hDF hDH ?_⟩
      rw [← hy, List.take_length] at ra
      exact ra
theorem ev_lcI {wi : TI} {g : TG} {vs : List Nat} {ys : List (Option D)} (hw : WiD K wi ρ ds) (hs : ∀ (i : Nat) (d : D) (r : Option D), ds[i]? = some d → ys[i]? = some r → Cmp1 K g tt te vs (wipeS ρ vs) d r) (hy : ys.length = ds.length) (hl : ds.length ≤ 16777215) :
    EvL K (tLc wi g tt te vs) ρ (ys.filterMap id) := fun F0 H0 F H σ R Q q => lc_atI R (hw F0 H0 F H σ R) hs hy hl q
theorem fm_some {α β : Type} (f : α → β) : ∀ l : List α, (l.map fun a => some (f a)).filterMap id = l.map f
  | [] => rfl
  | a :: l => by rw [List.map_cons, List.filterMap_cons]; exact congrArg _ (fm_some f l)
theorem fm_if {α β : Type} (p : α → Bool) (f : α → β) : ∀ l : List α, (l.map fun a => if p a then some (f a) else none).filterMap id = (l.filter p).map f
  | [] => rfl
  | a :: l => by
    rw [List.map_cons, List.filterMap_cons]
    cases e : p a with
    | true => rw [List.filter_cons, e]; exact congrArg _ (fm_if p f l)
    | false => rw [List.filter_cons, e]; exact fm_if p f l
/-- [y(a) for a in xs] -/
theorem evl_map {α : Type} {wi : TI} {g : TG} {vs : List Nat} {e : α → D} {as : List α} (f : α → D) (hw : WiD K wi ρ (as.map e)) (h : ∀ a ∈ as, ∃ is ρ1, TgD K g is (e a) (wipeS ρ vs) ρ1 ∧ (∀ j ∈ is, j ∈ vs) ∧ EvD K te ρ1 (f a)) (hl : as.length ≤ 16777215) :
    EvL K (tLc wi g tYes te vs) ρ (as.map f) := by
  have z := ev_lcI (K := K) (tt := tYes) (te := te) (g := g) (vs := vs) (ys := as.map fun a => some (f a)) hw (fun i d r h1 h2 => by
    rw [List.getElem?_map] at h1 h2
    cases q : as[i]? with
    | none => rw [q] at h1; cases h1
    | some a =>
      rw [q] at h1 h2
      cases h1; cases h2
      obtain ⟨is, ρ1, x1, x2, x3⟩ := h a (List.mem_of_getElem? q)
      exact ⟨is, ρ1, true, x1, x2, tv_yesD, fun _ => ⟨_, rfl, x3⟩, fun z => nomatch z⟩) (by simp) (by simpa using hl)
  rw [fm_some] at z
  exact z
/-- [y(a) for a in xs if p(a)] -/
theorem evl_filter {α : Type} {wi : TI} {g : TG} {vs : List Nat} {e : α → D} {as : List α} (p : α → Bool) (f : α → D) (hw : WiD K wi ρ (as.map e)) (h : ∀ a ∈ as, ∃ is ρ1, TgD K g is (e a) (wipeS ρ vs) ρ1 ∧ (∀ j ∈ is, j ∈ vs) ∧ TvD K tt ρ1 (p a) ∧ (p a = true → EvD K te ρ1 (f a))) (hl : as.length ≤ 16777215) :
    EvL K (tLc wi g tt te vs) ρ ((as.filter p).map f) := by
  have z := ev_lcI (K := K) (tt := tt) (te := te) (g := g) (vs := vs) (ys := as.map fun a => if p a then some (f a) else none) hw (fun i d r h1 h2 => by
    rw [List.getElem?_map] at h1 h2
    cases q : as[i]? with
    | none => rw [q] at h1; cases h1
    | some a =>
      rw [q] at h1 h2
      cases h1; cases h2
      obtain ⟨is, ρ1, x1, x2, x3, x4⟩ := h a (List.mem_of_getElem? q)
      exact ⟨is, ρ1, p a, x1, x2, x3, fun z => ⟨_, by show (if p a = true then some (f a) else none) = _; rw [if_pos z], x4 z⟩, fun z => by show (if p a = true then some (f a) else none) = _; rw [if_neg (by rw [z]; simp)]⟩) (by simp) (by simpa using hl)
  rw [fm_if] at z
  exact z
/-- over the keys of the dict in slot s, which may be locked meanwhile -/
theorem evl_lcKeysI {s : Nat} {g : TG} {vs : List Nat} {ys : List (Option D)} {u0 : D} (hs : ρ[s]? = some (.d u0)) (hd : KeysD u0 ds) (hf : ∀ (i : Nat) (d : D) (r : Option D), ds[i]? = some d → ys[i]? = some r → Cmp1 K g tt te vs (wipeS ρ vs) d r) (hy : ys.length = ds.length) (hl : ds.length ≤ 16777215) :
    EvL K (tLockEA (tLc (iSeq K (tVar s)) g tt te vs)) ρ (ys.filterMap id) := fun F0 H0 F H σ R Q q => by
  obtain ⟨v, h1, rv⟩ := R.get hs
  obtain ⟨a, rfl, hk | ⟨u, ha, hm, hu, hst, hL⟩⟩ := dict_state rv hd
  · exact .inr (lc_atI R (fun R' hR => wi_locked R.ex h1 hk R' hR) hf hy hl q)
  · refine .inl ⟨a, u, R.ex _ _ ha, hm, fun ob => ?_⟩
    have hH : H a = some u := R.ex _ _ ha
    have R1 := R.lk (u := u) (l := .frz ob u) ha (hst ob) hu
    have eF : DL.lk a u (.frz ob u) F a = some (.frz ob u) := lk_at ha
    have eH : DL.lk a u (.frz ob u) H = upd H a (.frz ob u) := lk_upd hH
    rw [← eH]
    refine lc_atI R1 (fun R' hR => wi_locked R1.ex h1 (hL ob _ eF) R' hR) hf hy hl fun p ws F2 H2 g2 hp hf2 h2 r2 => ?_
    have e2 : F2 a = some (.frz ob u) := g2.f _ _ eF
    have pa : p ≠ a := fun z => by
      subst z
      rw [e2] at hf2; cases hf2
    have hpH : H p = none := by rw [eH, upd_ne pa] at hp; exact hp
    have R2 : RelS K (DL.lk a u (.frz ob u) F0) (DL.lk a u (.frz ob u) H0) F2 H2 σ ρ := R1.grow g2
    have R3 := R.unlk ha (hst ob) hu R2 e2
    have tol : Tol F2 (upd F2 a u) := fun b o h => by
      by_cases z : b = a
      · subst z; rw [e2] at h; cases h; exact ⟨u, upd_same, (hst ob).symm⟩
      · exact ⟨o, by rw [upd_ne z]; exact h, rfl⟩
    refine ⟨g2.h _ _ (by rw [eH]; exact upd_same), q p ws (upd F2 a u) (upd H2 a u) ⟨ex_unlk ha g2.f, ?_, ?_, ?_⟩ hpH (by rw [upd_ne pa]; exact hf2) (by rw [upd_ne pa]; exact h2) (r2.tol tol)⟩
    · exact ex_unlk (l := .frz ob u) hH g2.h
    · exact g2.s.updB
    · intro b o h1 t h2
      by_cases z : b = a
      · subst z; rw [ha] at h2; cases h2
      · rw [upd_ne z]
        exact g2.n b o (by rw [lk_ne z]; exact h1) t (by rw [lk_ne z]; exact h2)
theorem evl_mapKeys {α : Type} {s : Nat} {g : TG} {vs : List Nat} {e : α → D} {as : List α} {u0 : D} (f : α → D) (hs : ρ[s]? = some (.d u0)) (hd : KeysD u0 (as.map e)) (h : ∀ a ∈ as, ∃ is ρ1, TgD K g is (e a) (wipeS ρ vs) ρ1 ∧ (∀ j ∈ is, j ∈ vs) ∧ EvD K te ρ1 (f a)) (hl : as.length ≤ 16777215) :
    EvL K (tLockEA (tLc (iSeq K (tVar s)) g tYes te vs)) ρ (as.map f) := by
  have z := evl_lcKeysI (K := K) (tt := tYes) (te := te) (g := g) (vs := vs) (ys := as.map fun a => some (f a)) hs hd (fun i d r h1 h2 => by
    rw [List.getElem?_map] at h1 h2
    cases q : as[i]? with
    | none => rw [q] at h1; cases h1
    | some a =>
      rw [q] at h1 h2
      cases h1; cases h2
      obtain ⟨is, ρ1, x1, x2, x3⟩ := h a (List.mem_of_getElem? q)
      exact ⟨is, ρ1, true, x1, x2, tv_yesD, fun _ => ⟨_, rfl, x3⟩, fun z => nomatch z⟩) (by simp) (by simpa using hl)
  rw [fm_some] at z
  exact z
end
end DL
namespace DL
open PySem PySem.Spec PyProof.Rows L2
section
variable {K : PySem.W.Frag} {W : WX} {ρ : List Sl} {te : TE} {ds : List D}
theorem reps_empty {F : Hp} {vs : List V} (r : Reps K F vs ds) : vs.isEmpty = ds.isEmpty := by
  cases r <;> rfl
theorem tv_truT (h : EvD K te ρ (.tup ds)) : TvD K (tTru K te) ρ (!ds.isEmpty) := fun F0 H0 F H σ R Q q => h F0 H0 F H σ R _ fun v F1 H1 g1 r1 => by
  cases r1 with
  | tup h1 rs =>
    refine ⟨_, .inr (.inl ⟨_, SqT.of (g1.s _ _ h1), rfl⟩), ?_⟩
    rw [reps_empty rs]
    exact q F1 H1 g1
theorem tv_truL (h : EvSL K te ρ ds) : TvD K (tTru K te) ρ (!ds.isEmpty) := fun F0 H0 F H σ R Q q => h F0 H0 F H σ R _ fun p vs F1 H1 g1 s1 rs => by
  refine ⟨_, .inl ⟨_, s1, rfl⟩, ?_⟩
  rw [reps_empty rs]
  exact q F1 H1 g1
end
end DL
set_option Elab.async false
set_option linter.all false
set_option maxRecDepth 100000
set_option maxHeartbeats 1000000
/-! list(d.items()), displays of dicts with int and text keys, over plain data. -/
namespace DL
open PySem PySem.Spec PyProof.Rows L2
/-! ### the rules of syntax -/
/-- list(x.items()), x a dict, locked or not -/
def tItemsR (te : TE) : TE := fun σ H Q => te σ H fun x H1 => ∃ (d : Addr) (kvs : List (Key × V)), x = .ref d ∧ Rd H1 d (.dK kvs) ∧
  ∀ (H' : Hp) (p : Addr) (ts : List Addr), (∀ b o, H1 b = some o → H' b = some o) → H1 p = none → (∀ t ∈ ts, H1 t = none) → p ∉ ts → H' p = some (.lst (ts.map V.ref)) → Paired (fun (t : Addr) (q : Key × V) => H' t = some (.tup [kV q.1, q.2])) ts kvs → Q (.ref p) H'
section
variable {X : Cx} {e : Expr} {te : TE} {p apos cpos pos : Pos}
theorem pe_itemsR (hc : X.calm = true) (he : PE X e te) (hg : Gl X "list") (hm : X.mg "list" = none) (hv : bootBuiltins "list" = some (.type "list")) (hbase : attributeBase e "items" X.env (eval e X.env) = eval e X.env := by rfl)
    (hline : (apos.endLine == cpos.line) = true := by rfl) (hs : starEach [.Call (.Attribute e "items" apos) [] [] cpos] X.env = (false, eval (.Call (.Attribute e "items" apos) [] [] cpos) X.env) :: starEach [] X.env := by rfl) : PE X (.Call (.Name "list" p) [.Call (.Attribute e "items" apos) [] [] cpos] [] pos) (tItemsR te) := by
  refine ⟨fun pins s σ H Q I hq => wpAny_Call_Name_kw (ld_blt I hg hm hv (PyProof.Rows.callWith_type1 ?_ hs rfl))⟩
  rw [hs]
  show wpAny _ _ (spliced ((false, eval (.Call (.Attribute e "items" apos) [] [] cpos) X.env) :: backTo pos (starEach [] X.env))) _ _ s
  refine Calls.spliced_cons (wpAny_Call_method (T := "dict") (id := "dict.items") hbase rfl hline F.plainAttrs_dict F.slot_dict_items F.type_dict_items (thn (he.run pins s σ H _ I hq) fun u s1 ⟨x, H1, I1, rx, d, kvs, ex, hd, q⟩ => ?_))
  subst ex; obtain rfl : u = Value.ref d := rx
  obtain ⟨hz, hs0, vs, kv, hdo⟩ := dk_rd I1.hok hd
  obtain ⟨ep, hat⟩ := hdo.dictAt
  have lk : kvs.length = vs.length := Paired.length kv
  have I2 := I1.kept (h' := s1.heap.push { cls := .type "dict_items", data := .fields #[.ref d] }) (t' := s1.toks) fun b ob q => Heap.get?_push_of_some _ q
  refine ⟨hdo.typeIs, hdo.mapOf.noDict, ?_⟩
  show wpAny _ _ (callWith cpos (.builtin "dict.items") [.ref d] [] []) _ X.xe s1
  refine method_meetsIn F.slot_dict_items F.entry_dict_items rfl (PySem.evalArgs_none ⟨rfl, hdo.typeIs, F.args_dict_items_1 _, _, meets_dict_items (mixKind X.prog X.w) d hs0, ⟨vs, hdo⟩, Calls.spliced_nil ?_⟩)
  refine PySem.W.kdx_call (knd := mixKind X.prog X.w) (kvs := vs) (ep := ep) (I1.ok.hd hc) ⟨_, Heap.get?_push_size _ rfl, rfl, rfl⟩ (hat.push _) (by omega) fun h' tk acc c as hk hS hl hG hacc => ?_
  obtain ⟨H', k1, k2, k3, k4, k5, k6, J⟩ := LiI.items_laid (tk := tk) I2 hz kv hk hS hl hG hacc; exact ⟨.ref _, H', J, rfl, q H' _ as k1 k2 k3 k4 k5 k6⟩
end
/-! ### over plain data -/
section
variable {K : PySem.W.Frag} {W : WX} {ρ ρ' : List Sl} {te ta tb : TE} {d x y z : D} {xs ds zs : List D} {i : Nat}
theorem items_known {F H : Hp} (e : Ex F H) : ∀ {ts : List Addr} {ws : List (Key × V)} {kvs : List (Key × D)}, Paired (fun (t : Addr) (q : Key × V) => H t = some (.tup [kV q.1, q.2])) ts ws → KR K F ws kvs → ∃ F', Gr F H F' H ∧ Reps K F' (ts.map V.ref) (kvs.map fun kv => .tup [kD kv.1, kv.2])
  | _, _, _, .nil, .nil => ⟨F, .refl e, .nil⟩
  | t :: _, (k, v) :: _, (_, d) :: _, .cons h hs, .cons hr rs => by
    obtain ⟨F1, g1, r1⟩ := items_known e hs rs
    obtain ⟨F2, g2, h2⟩ := Gr.tup g1.s h
    exact ⟨F2, g1.trans g2, .cons (.tup h2 (.cons (rep_key k) (.cons (hr.mono (g1.trans g2).f) .nil))) (r1.mono g2.f)⟩
theorem evl_items {kvs : List (Key × D)} (h : EvDK K te ρ kvs) : EvL K (tItemsR te) ρ (kvs.map fun kv => .tup [kD kv.1, kv.2]) := fun F0 H0 F H σ R Q q =>
  h F0 H0 F H σ R _ fun a ws F1 H1 g1 s1 r1 => ⟨a, ws, rfl, s1, fun H' p ts k1 k2 k3 k4 k5 k6 => by
    have g2 : Gr F1 H1 F1 H' := ⟨Ex.refl _, k1, g1.s.trans k1, fun _ _ _ _ h => h⟩
    obtain ⟨F2, g3, r3⟩ := items_known (K := K) g2.s k6 r1
    have gA := g1.trans (g2.trans g3)
    have fp : F2 p = none := g3.n p _ k5 rfl (g1.s.back k2)
    exact q p _ F2 H' gA (g1.h.back k2) fp k5 r3⟩
theorem ev_dnewK : EvD K tDNewK ρ (.dk [] []) := fun F0 H0 F H σ R Q q => fun a ha => q (.ref a) (upd F a (.dK [])) (upd H a (.dK [])) (.new R.ex ha) (.dk upd_same rfl rfl .nil)
theorem ev_disp1K {k : Key} (hk : EvD K ta ρ (kD k)) (hv : EvD K tb ρ d) : EvD K (tDisp [(ta, tb)]) ρ (.dk [k] [d]) := fun F0 H0 F H σ R Q q => fun p hp => by
  have g0 : Gr F H F (upd H p (.dK [])) := .own R.ex hp
  have fp : F p = none := R.ex.back hp
  refine hk F0 H0 F _ σ (R.grow g0) _ fun x F1 H1 g1 r1 => hv F0 H0 F1 H1 σ (R.grow (g0.trans g1)) _ fun y F2 H2 g2 r2 => ?_
  have ex := rep_kD r1
  subst ex
  have gA := (g0.trans g1).trans g2
  have h2 : H2 p = some (.dK []) := (g1.trans g2).h _ _ upd_same
  have f2 : F2 p = none := (g1.trans g2).n p _ upd_same rfl fp
  refine ⟨h2, [(k, y)], rfl, by show 1 ≤ 15; decide, ?_⟩
  refine q (.ref p) (upd F2 p (.dK [(k, y)])) (upd H2 p (.dK [(k, y)])) ⟨gA.f.trans (Ex.new f2), gA.h.mut hp, gA.s.updB, fun b o h1 t h3 => ?_⟩ (.dk (vs := [y]) upd_same rfl rfl (.cons (r2.mono (Ex.new f2)) .nil))
  rw [upd_ne (ne_of_none h1 hp)]
  exact gA.n b o h1 t h3
end
/-! ### sorted(d), list(d): a dict with int and text keys, locked or not -/
section
variable {X : Cx}
theorem cr_sortK (hc : X.calm = true) (hu : X.A.units + 64 < cLine) : CallR X (.builtin "sorted") rSortK := by
  intro pins s σ H xs us Q I r h
  obtain ⟨a, ws, rfl, hd, so, q⟩ := h
  obtain ⟨u, rfl, rx⟩ := r.one
  cases rx
  obtain ⟨z, hs, vs, kv, hdo⟩ := dk_rd I.hok hd
  obtain ⟨ep, hat⟩ := hdo.dictAt
  have hl : ws.length = vs.length := Paired.length kv
  refine Calls.call_function_entry kind_sorted plain_sorted entry_sorted (args_sorted1 _) ?_
  unfold Builtin.«sorted»
  refine wpAny_bind (m := checkCount "sorted" 1 1 _) (wpAny_pure ?_)
  refine wpAny_bind (PySem.W.kdu_collect (A := X.A.in1) (PySem.W.kdl_dict (knd := mixKind X.prog X.w) (kvs := vs) (ep := ep) hs) (I.ok.hd hc) hat (by omega) fun h' tk acc hk hacc => ?_)
  have I1 : Inv X pins σ H { s with heap := h', toks := tk } := I.kept hk
  have rv : Vals ((ws.map fun kv => (kV kv.1, keyPy kv.1)).map (·.1)) acc.toList := by
    rw [List.map_map]
    have el : acc.toList.length = acc.size := by simp
    refine vals_of_at (by rw [List.length_map, el, hacc.1, hl]) fun j x w h1 h2 => ?_
    obtain ⟨k, y, hky, hi⟩ := hacc.2 j w (by rw [← Array.getElem?_toList]; exact h2)
    have e1 : (ws.map (·.1))[j]? = some k := by
      rw [KV.keys kv, List.getElem?_map, hky] <;> rfl
    have e2 : (ws.map ((·.1) ∘ fun kv : Key × V => (kV kv.1, keyPy kv.1)))[j]? = some (kV k) := by
      have e3 : (ws.map ((·.1) ∘ fun kv : Key × V => (kV kv.1, keyPy kv.1))) = (ws.map (·.1)).map kV := by rw [List.map_map] <;> rfl
      rw [e3, List.getElem?_map, e1] <;> rfl
    rw [e2] at h1
    cases h1
    exact keyIs_rel hi
  refine wpAny_bind (wpAny_newList ?_ (by rw [Array.length_toList, hacc.1]; omega))
  show wpAny _ _ _ _ _ { s with heap := h'.push (seqObj "list" acc.toList.toArray 0), toks := tk }
  refine wpAny_bind (wpAny_holding (wpAny_mono (sort_tail (X := X) (pins := pins) (σ := σ) (s := s) (Q := Q) (R := fun _ s' => EP X pins σ Q (.ref h'.objs.size) s') hu I1 rv (fun b hb => ?_) (by rw [List.map_map]; exact so) (fun b hb => ?_) (fun p hp => q p hp) (fun s' h => h) _ (by show X.A.units + 1 ≤ _; omega)) (fun _ s' h => ?_) fun _ _ h => h))
  · obtain ⟨w, _, rfl⟩ := List.mem_map.mp hb
    cases w.1 with
    | inl i => exact .int i
    | inr z => exact .str z
  · obtain ⟨w, _, rfl⟩ := List.mem_map.mp hb
    exact noL_key w.1
  · exact wpAny_pure ⟨_, rfl, h⟩
def rListRd : List V → Hp → VK → Prop := fun xs H Q => ∃ (p : Addr) (kvs : List (Key × V)), xs = [.ref p] ∧ Rd H p (.dK kvs) ∧ ∀ q, H q = none → Q (.ref q) (upd H q (.lst (kvs.map fun kv => kV kv.1)))
theorem cr_listRd (hc : X.calm = true) : CallR X (.type "list") rListRd := by
  intro pins s σ H xs us Q I r h
  obtain ⟨p, kvs, e, hk, q⟩ := h
  subst e
  obtain ⟨u, rfl, rx⟩ := r.one
  cases rx
  obtain ⟨z, lo, vs, rk, hd⟩ := dk_rd I.hok hk
  obtain ⟨ep, hat⟩ := hd.dictAt
  have hl : kvs.length = vs.length := Paired.length rk
  refine PySem.W.kdl_call (PySem.W.kdl_dict (knd := mixKind X.prog X.w) (kvs := vs) (ep := ep) lo) (I.ok.hd hc) hat (by rw [← hl]; exact z) fun h' tk acc' c' hkeep hS hacc => ?_
  refine ⟨.ref s.heap.objs.size, upd H s.heap.objs.size (.lst (kvs.map fun kv => kV kv.1)), I.laid hkeep (Nat.le_refl _) (show ObjOk X.prog X.w _ _ _ (.lst (kvs.map fun kv => kV kv.1)) from ⟨?_, acc'.toList, c', ?_, ?_⟩), rfl, q _ (I.hok.fresh (Nat.le_refl _))⟩
  · rw [List.length_map]; exact z
  · have el : acc'.toList.length = acc'.size := by simp
    refine vals_of_at (by rw [List.length_map, el, hacc.1, hl]) fun j x w h1 h2 => ?_
    obtain ⟨k, y, hky, hi⟩ := hacc.2 j w (by rw [← Array.getElem?_toList]; exact h2)
    have e1 : (kvs.map (·.1))[j]? = some k := by
      rw [KV.keys rk, List.getElem?_map, hky] <;> rfl
    have e2 : (kvs.map fun kv => kV kv.1)[j]? = some (kV k) := by
      have e3 : (kvs.map fun kv => kV kv.1) = (kvs.map (·.1)).map kV := by rw [List.map_map] <;> rfl
      rw [e3, List.getElem?_map, e1] <;> rfl
    rw [e2] at h1
    cases h1
    exact keyIs_rel hi
  · rw [Array.toArray_toList]; exact hS
end
section
variable {K : PySem.W.Frag} {W : WX} {ρ ρ' : List Sl} {te ta tb : TE} {d x y z : D} {xs ds zs : List D} {i : Nat}
theorem zipK {F : Hp} : ∀ {ws : List (Key × V)} {kvs : List (Key × D)}, KR K F ws kvs → ∃ cs : List (V × D), (ws.map fun kv => (kV kv.1, keyPy kv.1)) = cs.map (fun c => (c.1, c.2.py)) ∧ (kvs.map fun kv => kD kv.1) = cs.map (·.2) ∧ ∀ c ∈ cs, Rep K F c.1 c.2
  | _, _, .nil => ⟨[], rfl, rfl, fun _ z => nomatch z⟩
  | (k, v) :: _, (_, d) :: _, .cons hr rs => by
    obtain ⟨cs, e1, e2, e3⟩ := zipK rs
    refine ⟨(kV k, kD k) :: cs, ?_, ?_, fun c hc => ?_⟩
    · rw [List.map_cons, e1, List.map_cons, py_kD]
    · rw [List.map_cons, e2, List.map_cons]
    · rcases List.mem_cons.mp hc with e | e
      · rw [e]; exact rep_key k
      · exact e3 c e
theorem evl_sortK {kvs : List (Key × D)} (h : EvDK K te ρ kvs) (so : SortOk (kvs.map fun kv => keyPy kv.1)) : EvL K (tCB rSortK (tCons te tNil)) ρ (sortD (kvs.map fun kv => kD kv.1)) := fun F0 H0 F H σ R Q q =>
  h F0 H0 F H σ R _ fun a ws F1 H1 g1 s1 r1 => by
    have ek := r1.keys
    have e0 : (ws.map fun kv => keyPy kv.1) = kvs.map fun kv => keyPy kv.1 := by
      have : (ws.map (·.1)).map keyPy = (kvs.map (·.1)).map keyPy := by rw [ek]
      rw [List.map_map, List.map_map] at this; exact this
    obtain ⟨cs, c1, c2, c3⟩ := zipK r1
    refine ⟨a, ws, rfl, s1, by rw [e0]; exact so, fun p hp => ?_⟩
    have rr := reps_sorted c3
    rw [← c2] at rr
    rw [c1]
    exact q p _ F1 _ (g1.trans (.own g1.s hp)) (g1.h.back hp) (g1.s.back hp) upd_same rr
theorem evl_listRd {kvs : List (Key × D)} (h : EvDK K te ρ kvs) : EvL K (tCB rListRd (tCons te tNil)) ρ (kvs.map fun kv => kD kv.1) := fun F0 H0 F H σ R Q q =>
  h F0 H0 F H σ R _ fun a ws F1 H1 g1 s1 r1 => ⟨a, ws, rfl, s1, fun l hl => q l _ F1 _ (g1.trans (.own g1.s hl)) (g1.h.back hl) (g1.s.back hl) upd_same (reps_krKeys r1)⟩
end
end DL
set_option Elab.async false
set_option linter.all false
set_option maxRecDepth 100000
set_option maxHeartbeats 1000000
/-! What the helpers that every law has come to: a cell of the script, its digits. -/
namespace Go
open PySem PySem.Spec PyProof.Rows L2 DL
def fr_law_whole (ds : List D) (r : Res) : Prop := ∃ d, d.tyOk = true ∧ ds = [d] ∧ r = .ok (.bl (isInt d))
/-! ### a cell -/
def seedM (ns : List Int) : Int := ns.foldl (fun s c => (s * 31 + c % 1000003) % 1000003) 17
def cellM (ns : List Int) (k : Nat) : Int := match ns[k]? with
  | some c => c
  | none => (seedM ns + 7) * ((k : Int) + 3) * 69621 % 2147483647
def fr_law_cell (ds : List D) (r : Res) : Prop := ∃ (ns : List Int) (k : Nat), k ≤ 100000 ∧ ds = [.scr ns, .int (k : Int)] ∧ r = .ok (.int (cellM ns k))
theorem seed_bound (ns : List Int) : 0 ≤ seedM ns ∧ seedM ns < 1000003 := by
  unfold seedM
  have : ∀ (l : List Int) (s : Int), (0 ≤ s ∧ s < 1000003) → 0 ≤ l.foldl (fun s c => (s * 31 + c % 1000003) % 1000003) s ∧ l.foldl (fun s c => (s * 31 + c % 1000003) % 1000003) s < 1000003 := by
    intro l
    induction l with
    | nil => intro s h; exact h
    | cons c r ih =>
      intro s h
      rw [List.foldl_cons]
      exact ih _ (by omega)
  exact this ns 17 (by omega)
/-! ### digits -/
/-- the digits of a great number, to mixed bases -/
def digA : Int → List Int → List Int
  | _, [] => []
  | rest, s :: ss => rest % s :: digA (rest / s) ss
/-- the digits that a small number draws -/
def nextS (seed : Int) (k : Nat) : Int := (seed * 48271 + 974711 * (k : Int) + 12345) % 2147483647
def drawS (seed : Int) : Int := seed * (seed / 65537 + 3) % 2147483629
def digB : Int → Nat → List Int → List Int
  | _, _, [] => []
  | seed, k, s :: ss => drawS (nextS seed k) / 19 % s :: digB (nextS seed k) (k + 1) ss
def digM (cell : Int) (sizes : List Int) : List Int := if 1000000000000000000 ≤ cell then digA (cell - 1000000000000000000) sizes else digB (cell % 2147483629) 0 sizes
def fr_law_digits (ds : List D) (r : Res) : Prop := ∃ (c : Int) (ss : List Int), (∀ s ∈ ss, 0 < s ∧ s < 1073741824) ∧ ss.length ≤ 5000 ∧ ds = [.int c, .lst (ss.map D.int)] ∧ r = .ok (.lst ((digM c ss).map D.int))
theorem digA_len : ∀ (r : Int) (ss : List Int), (digA r ss).length = ss.length
  | _, [] => rfl
  | r, s :: ss => by unfold digA; rw [List.length_cons, List.length_cons, digA_len]
theorem digB_len : ∀ (r : Int) (k : Nat) (ss : List Int), (digB r k ss).length = ss.length
  | _, _, [] => rfl
  | r, k, s :: ss => by unfold digB; rw [List.length_cons, List.length_cons, digB_len]
theorem digM_len (c : Int) (ss : List Int) : (digM c ss).length = ss.length := by
  unfold digM; split
  · exact digA_len _ _
  · exact digB_len _ _ _
theorem digA_at : ∀ {r : Int} {ss : List Int}, (∀ s ∈ ss, 0 < s) → ∀ (k : Nat) (s d : Int), ss[k]? = some s → (digA r ss)[k]? = some d → 0 ≤ d ∧ d < s
  | r, [], _, k, s, d, h, _ => by simp at h
  | r, t :: ss, hp, 0, s, d, h, h' => by
    simp [digA] at h h'
    subst h; subst h'
    have := hp t List.mem_cons_self
    exact ⟨Int.emod_nonneg _ (by omega), Int.emod_lt_of_pos _ this⟩
  | r, t :: ss, hp, k + 1, s, d, h, h' => by
    simp [digA] at h h'
    exact digA_at (fun x hx => hp x (List.mem_cons_of_mem _ hx)) k s d h h'
theorem digB_at : ∀ {r : Int} {j : Nat} {ss : List Int}, (∀ s ∈ ss, 0 < s) → ∀ (k : Nat) (s d : Int), ss[k]? = some s → (digB r j ss)[k]? = some d → 0 ≤ d ∧ d < s
  | r, j, [], _, k, s, d, h, _ => by simp at h
  | r, j, t :: ss, hp, 0, s, d, h, h' => by
    simp [digB] at h h'
    subst h; subst h'
    have := hp t List.mem_cons_self
    exact ⟨Int.emod_nonneg _ (by omega), Int.emod_lt_of_pos _ this⟩
  | r, j, t :: ss, hp, k + 1, s, d, h, h' => by
    simp [digB] at h h'
    exact digB_at (fun x hx => hp x (List.mem_cons_of_mem _ hx)) k s d h h'
/-- each digit lies below its size -/
theorem digM_at {c : Int} {ss : List Int} (hp : ∀ s ∈ ss, 0 < s) (k : Nat) (s d : Int) (h : ss[k]? = some s) (h' : (digM c ss)[k]? = some d) : 0 ≤ d ∧ d < s := by
  unfold digM at h'; split at h'
  · exact digA_at hp k s d h h'
  · exact digB_at hp k s d h h'
/-- the seed behind k turns from turn j on -/
def seedIt (s : Int) (j : Nat) : Nat → Int
  | 0 => s
  | k + 1 => nextS (seedIt s j k) (j + k)
theorem seedIt_shift (s : Int) (j : Nat) : ∀ k : Nat, seedIt (nextS s j) (j + 1) k = seedIt s j (k + 1)
  | 0 => rfl
  | k + 1 => by
    have e : j + 1 + k = j + (k + 1) := by omega
    show nextS (seedIt (nextS s j) (j + 1) k) (j + 1 + k) = nextS (seedIt s j (k + 1)) (j + (k + 1))
    rw [seedIt_shift s j k, e]
theorem digB_get : ∀ (ss : List Int) (s : Int) (j k : Nat), (digB s j ss)[k]? = (ss[k]?).map fun z => drawS (seedIt s j (k + 1)) / 19 % z
  | [], s, j, k => by simp [digB]
  | z :: ss, s, j, 0 => by simp [digB, seedIt]
  | z :: ss, s, j, k + 1 => by
    have ih := digB_get ss (nextS s j) (j + 1) k
    rw [seedIt_shift] at ih
    simp [digB, ih]
theorem nextS_bound (s : Int) (k : Nat) : 0 ≤ nextS s k ∧ nextS s k < 2147483647 := by
  unfold nextS
  exact ⟨Int.emod_nonneg _ (by decide), Int.emod_lt_of_pos _ (by decide)⟩
theorem seedIt_bound {s : Int} (h : 0 ≤ s ∧ s < 2147483647) (j k : Nat) : 0 ≤ seedIt s j k ∧ seedIt s j k < 2147483647 := by
  cases k with
  | zero => exact h
  | succ k => exact nextS_bound _ _
end Go
set_option Elab.async false
set_option linter.all false
set_option maxRecDepth 100000
set_option maxHeartbeats 1000000
/-! What the proofs of all laws share. -/
namespace Go
open PySem PySem.Spec PyProof.Rows L2 DL
def nth (l : List Int) (k : Nat) : Int := l.getD k 0
def rowOk (sz row : List Int) : Prop := row.length = sz.length ∧ ∀ (k : Nat) (s d : Int), sz[k]? = some s → row[k]? = some d → 0 ≤ d ∧ d < s
theorem rowOk_dig (c : Int) {sz : List Int} (h : ∀ s ∈ sz, 0 < s) : rowOk sz (digM c sz) := ⟨digM_len c sz, fun k s d => digM_at h k s d⟩
theorem le2 : 2 ≤ 16777216 := by decide
theorem le3 : 3 ≤ 16777216 := by decide
theorem le1 : 1 ≤ 16777216 := by decide
structure Sh (n : Nat) (d : D) : Prop where
  pl : d.pl = true
  lay : d.py.canLay0 = true
  dep : d.py.depth ≤ n
theorem Sh.int (i : Int) : Sh 1 (.int i) := ⟨rfl, rfl, by simp [D.py, PyData.depth]⟩
theorem Sh.str {s : Str} (h : PyData.strOk s = true) : Sh 1 (.str s) := ⟨rfl, h, by simp [D.py, PyData.depth]⟩
theorem Sh.all {n : Nat} : ∀ {ds : List D}, (∀ d ∈ ds, Sh n d) → D.pls ds = true ∧ PyData.canLayAll0 (D.pys ds) = true ∧ PyData.depthAll (D.pys ds) ≤ n
  | [], _ => ⟨rfl, rfl, Nat.zero_le _⟩
  | d :: ds, h => by
    obtain ⟨a, b, c⟩ := Sh.all (n := n) (ds := ds) fun e he => h e (List.mem_cons_of_mem _ he)
    have hd := h d List.mem_cons_self
    refine ⟨?_, ?_, ?_⟩
    · show (d.pl && D.pls ds) = true; rw [hd.pl, a]; rfl
    · show (d.py.canLay0 && PyData.canLayAll0 (D.pys ds)) = true; rw [hd.lay, b]; rfl
    · show PyData.depthAll (d.py :: D.pys ds) ≤ n; rw [PyData.depthAll]; exact Nat.max_le.mpr ⟨hd.dep, c⟩
theorem Sh.lst {n : Nat} {ds : List D} (h : ∀ d ∈ ds, Sh n d) : Sh (n + 1) (.lst ds) := by
  obtain ⟨a, b, c⟩ := Sh.all h
  exact ⟨a, b, by show PyData.depth (.list (D.pys ds)) ≤ _; rw [PyData.depth]; omega⟩
theorem Sh.tup {n : Nat} {ds : List D} (h : ∀ d ∈ ds, Sh n d) : Sh (n + 1) (.tup ds) := by
  obtain ⟨a, b, c⟩ := Sh.all h
  exact ⟨a, b, by show PyData.depth (.tuple (D.pys ds)) ≤ _; rw [PyData.depth]; omega⟩
theorem Sh.ok {n : Nat} {d : D} (h : Sh n d) (hn : n ≤ 64) : d.ok = true := by
  unfold D.ok SeqAt.shaped
  rw [h.pl, h.lay]
  have := h.dep
  simp only [Bool.true_and, decide_eq_true_eq]; omega
theorem Sh.refl {n : Nat} {d : D} (h : Sh n d) : PyData.eqv d.py d.py = true := SeqAt.eqv_refl d.py h.lay
section
variable {K : PySem.W.Frag} {W : WX} {ρ : List Sl} {te ta tb : TE} {d : D}
theorem sv_notCall {t u : TS} {o : Out} (h : EvD K te ρ (.bl true)) (hu : SvD K W u ρ o) : SvD K W (tSeq (tIfS (tNot (tB te)) t tNext) u) ρ o := sv_seq (sv_ifF (tv_not (tv_B h)) sv_next) hu
theorem ev_nthI {l : List Int} {i : Int} (h : EvSL K te ρ (l.map D.int)) (hb : EvD K tb ρ (.int i)) (h0 : 0 ≤ i) (h1 : i < l.length) : EvD K (tOp (rIxA K) te tb) ρ (.int (nth l i.toNat)) := by
  have hi : i.toNat < l.length := by omega
  refine ev_ixL (i := i) h hb ?_
  have e : i = (i.toNat : Int) := by omega
  rw [e]
  refine atI_nat ?_
  rw [List.getElem?_map, List.getElem?_eq_getElem hi]
  show some (D.int _) = some (D.int _)
  unfold nth
  rw [List.getD_eq_getElem?_getD, show ((i.toNat : Int)).toNat = i.toNat from rfl, List.getElem?_eq_getElem hi]; rfl
theorem ev_nth {l : List Int} {k : Nat} (h : EvSL K te ρ (l.map D.int)) (hb : EvD K tb ρ (.int (k : Int))) (h1 : k < l.length) : EvD K (tOp (rIxA K) te tb) ρ (.int (nth l k)) := by
  have := ev_nthI h hb (by omega) (by omega)
  simpa using this
theorem p109 : (10 : Int) ^ (9 : Int).toNat = 1000000000 := by decide
theorem ev_p109 : EvD K (tOp (rI CPow fun i j => .int (i ^ j.toNat)) (tC (.int 10)) (tC (.int 9))) ρ (.int 1000000000) := ev_eq (ev_powI ev_int ev_int ⟨by decide, by decide, by decide⟩) (by rw [p109])
theorem sv_ifLt {t v : TS} {o : Out} {i j : Int} (ha : EvD K ta ρ (.int i)) (hb : EvD K tb ρ (.int j)) (hs : o.stops = true) (h1 : i < j → SvD K W t ρ o) (h2 : ¬ i < j → SvD K W v ρ o) : SvD K W (tSeq (tIfS (tTest (tOp (rI0 fun i j => .bl (decide (i < j))) ta tb)) t tNext) v) ρ o := by
  by_cases e : i < j
  · exact sv_stop (sv_ifT (tv_eq (tv_cmpI (g := fun i j => decide (i < j)) ha hb) (by simpa using e)) (h1 e)) hs
  · exact sv_seq (sv_ifF (tv_eq (tv_cmpI (g := fun i j => decide (i < j)) ha hb) (by simpa using e)) sv_next) (h2 e)
theorem cut_at {α : Type} {xs : List α} {lo hi j : Nat} (h1 : lo + j < hi) (h2 : hi ≤ xs.length) : (DL.cutD xs (some (lo : Int)) (some (hi : Int)))[j]? = xs[lo + j]? := by
  unfold DL.cutD
  rw [HT.sIx_nat, HT.sIx_nat, Nat.min_eq_left h2, Nat.min_eq_left (show lo ≤ xs.length by omega), List.getElem?_take, if_pos (by omega), List.getElem?_drop]
theorem ev_dig {row : List Int} {lo hi j : Nat} {e1 e2 : Int} {i : Nat} (hx : ρ[i]? = some (.ol (DL.cutD (row.map D.int) (some e1) (some e2)))) (he1 : e1 = (lo : Int)) (he2 : e2 = (hi : Int)) (hb : EvD K tb ρ (.int (j : Int))) (h1 : lo + j < hi) (h2 : hi ≤ row.length) : EvD K (tOp (rIxA K) (tVar i) tb) ρ (.int (nth row (lo + j))) := by
  subst he1; subst he2
  have hl : lo + j < row.length := by omega
  refine ev_ixL (i := (j : Int)) (sl_own hx) hb (atI_nat ?_)
  rw [cut_at h1 (by rw [List.length_map]; exact h2), List.getElem?_map, List.getElem?_eq_getElem hl]
  show some (D.int _) = some (D.int _)
  unfold nth
  rw [List.getD_eq_getElem?_getD, List.getElem?_eq_getElem hl]; rfl
theorem le4 : 4 ≤ 16777216 := by decide
theorem row_len {sz row : List Int} (h : rowOk sz row) : row.length = sz.length := h.1
theorem row_at {sz row : List Int} (h : rowOk sz row) {k : Nat} {s : Int} (hs : sz[k]? = some s) : 0 ≤ nth row k ∧ nth row k < s := by
  have hk : k < row.length := by rw [h.1]; exact (List.getElem?_eq_some_iff.mp hs).1
  have e : row[k]? = some (nth row k) := by unfold nth; rw [List.getD_eq_getElem?_getD, List.getElem?_eq_getElem hk]; rfl
  exact h.2 k s _ hs e
theorem row_le {sz row : List Int} {B : Int} (h : rowOk sz row) (hB : ∀ s ∈ sz, s ≤ B) {k : Nat} (hk : k < sz.length) : 0 ≤ nth row k ∧ nth row k < B := by
  have e := List.getElem?_eq_getElem hk
  have h1 := row_at h e
  have h2 := hB _ (List.getElem_mem hk)
  omega
theorem le5 : 5 ≤ 16777216 := by decide
theorem beqI (i j : Int) : (i == j) = decide (i = j) := by
  by_cases h : i = j
  · simp [h]
  · simp [h]
theorem le7 : 7 ≤ 16777216 := by decide
theorem max_of (l : List Int) : ∃ m, m ∈ 0 :: l ∧ ∀ y ∈ 0 :: l, y ≤ m := by
  induction l with
  | nil => exact ⟨0, by simp, by simp⟩
  | cons a l ih =>
    obtain ⟨m, h1, h2⟩ := ih
    by_cases e : a ≤ m
    · refine ⟨m, ?_, fun y hy => ?_⟩
      · rcases List.mem_cons.mp h1 with z | z
        · rw [z]; exact List.mem_cons_self
        · exact List.mem_cons_of_mem _ (List.mem_cons_of_mem _ z)
      · rcases List.mem_cons.mp hy with z | z
        · exact h2 y (by rw [z]; exact List.mem_cons_self)
        · rcases List.mem_cons.mp z with z | z
          · rw [z]; exact e
          · exact h2 y (List.mem_cons_of_mem _ z)
    · refine ⟨a, List.mem_cons_of_mem _ List.mem_cons_self, fun y hy => ?_⟩
      rcases List.mem_cons.mp hy with z | z
      · have := h2 y (by rw [z]; exact List.mem_cons_self)
        omega
      · rcases List.mem_cons.mp z with z | z
        · omega
        · have := h2 y (List.mem_cons_of_mem _ z)
          omega
theorem ev_name {ns : List Str} {i : Int} (h : EvSL K te ρ (ns.map D.str)) (hb : EvD K tb ρ (.int i)) (h0 : 0 ≤ i) (h1 : i < ns.length) : EvD K (tOp (rIxA K) te tb) ρ (.str (ns.getD i.toNat "")) := by
  have hi : i.toNat < ns.length := by omega
  refine ev_ixL (i := i) h hb ?_
  have e : i = (i.toNat : Int) := by omega
  rw [e]
  refine atI_nat ?_
  rw [List.getElem?_map, List.getElem?_eq_getElem hi]
  show some (D.str _) = some (D.str _)
  rw [List.getD_eq_getElem?_getD, show ((i.toNat : Int)).toNat = i.toNat from rfl, List.getElem?_eq_getElem hi]; rfl
theorem tv_same {n : Nat} {x : D} (ha : EvD K ta ρ x) (hb : EvD K tb ρ x) (h : Sh n x) (hn : n ≤ 64) : TvD K (tTest (tOp (rNeD K) ta tb)) ρ false := tv_eq (tv_neD ha hb (h.ok hn) (h.ok hn)) (by rw [h.refl]; rfl)
theorem sv_or2 {tt tu : TT} {t u : TS} {o : Out} (h1 : TvD K tt ρ false) (h2 : TvD K tu ρ false) (hu : SvD K W u ρ o) : SvD K W (tSeq (tIfS (tOr tt tu) t tNext) u) ρ o := sv_seq (sv_ifF (tv_or (a := false) (b := false) h1 fun _ => h2) sv_next) hu
end
end Go
set_option Elab.async false
set_option linter.all false
set_option maxRecDepth 100000
set_option maxHeartbeats 1000000
/-! Euclid; least and greatest numbers of a list; common divisors of a list. -/
namespace Go
open PySem PySem.Spec PyProof.Rows L2 DL
def gcdI (a b : Int) : Int := ((Nat.gcd a.natAbs b.natAbs : Nat) : Int)
theorem gcdI_eq (a b : Int) : gcdI a b = (Int.gcd a b : Int) := rfl
/-- two steps of Euclid halve -/
theorem euclid_half {b c j : Nat} (hc : 0 < c) (h : c < b) (hb : b < 2 ^ (j + 1)) : b % c < 2 ^ j := by
  have h1 := Nat.mod_lt b hc
  have h2 := Nat.div_add_mod b c
  have h3 : 1 ≤ b / c := Nat.div_pos (by omega) hc
  have h4 : c * 1 ≤ c * (b / c) := Nat.mul_le_mul_left c h3
  rw [Nat.pow_succ] at hb
  omega
def fr_law_gcd (ds : List D) (r : Res) : Prop := ∃ a b : Int, b.natAbs < 2 ^ 100000 ∧ ds = [.int a, .int b] ∧ r = .ok (.int (gcdI a b))
theorem bd_mul {i j : Int} {a b : Nat} (ha : i.natAbs < 2 ^ a) (hb : j.natAbs < 2 ^ b) : (i * j).natAbs < 2 ^ (a + b) := wide_lt ha hb
theorem mul_b {i j : Int} {a b : Nat} (ha : i.natAbs < 2 ^ a) (hb : j.natAbs < 2 ^ b) (h : a + b ≤ 100000) : CMulX i j := mul_ok a b ha hb (by omega)
theorem ne_mul {a b : Int} (ha : a ≠ 0) (hb : b ≠ 0) : a * b ≠ 0 := Int.mul_ne_zero ha hb
/-! ### least, greatest -/
def minL : List Int → Int
  | [] => 0
  | [a] => a
  | a :: b :: l => if a ≤ minL (b :: l) then a else minL (b :: l)
def maxL : List Int → Int
  | [] => 0
  | [a] => a
  | a :: b :: l => if maxL (b :: l) ≤ a then a else maxL (b :: l)
theorem minL_mem : ∀ {l : List Int}, l ≠ [] → minL l ∈ l
  | [], h => absurd rfl h
  | [a], _ => by simp [minL]
  | a :: b :: l, _ => by
    have ih := minL_mem (l := b :: l) (by simp)
    unfold minL
    split
    · exact List.mem_cons_self
    · exact List.mem_cons_of_mem _ ih
theorem minL_le : ∀ {l : List Int} {x : Int}, x ∈ l → minL l ≤ x
  | [a], x, h => by simp at h; subst h; simp [minL]
  | a :: b :: l, x, h => by
    unfold minL
    rcases List.mem_cons.mp h with e | e
    · subst e; split <;> omega
    · have ih := minL_le (l := b :: l) e
      split <;> omega
theorem maxL_mem : ∀ {l : List Int}, l ≠ [] → maxL l ∈ l
  | [], h => absurd rfl h
  | [a], _ => by simp [maxL]
  | a :: b :: l, _ => by
    have ih := maxL_mem (l := b :: l) (by simp)
    unfold maxL
    split
    · exact List.mem_cons_self
    · exact List.mem_cons_of_mem _ ih
theorem maxL_le : ∀ {l : List Int} {x : Int}, x ∈ l → x ≤ maxL l
  | [a], x, h => by simp at h; subst h; simp [maxL]
  | a :: b :: l, x, h => by
    unfold maxL
    rcases List.mem_cons.mp h with e | e
    · subst e; split <;> omega
    · have ih := maxL_le (l := b :: l) e
      split <;> omega
theorem minL_eq {l : List Int} {m : Int} (h1 : m ∈ l) (h2 : ∀ x ∈ l, m ≤ x) : minL l = m := by
  have a := minL_le h1
  have b := h2 _ (minL_mem (fun e => by rw [e] at h1; cases h1))
  omega
theorem minL_add (b : Int) {l : List Int} (h : l ≠ []) : minL (l.map (· + b)) = minL l + b := by
  refine minL_eq (List.mem_map_of_mem (minL_mem h)) fun x hx => ?_
  obtain ⟨y, hy, rfl⟩ := List.mem_map.mp hx
  have := minL_le hy
  show minL l + b ≤ y + b
  omega
/-! ### the greatest common divisor of a list -/
def gcdL (l : List Int) : Int := l.foldl gcdI 0
theorem gcdI_nn (a b : Int) : 0 ≤ gcdI a b := by rw [gcdI_eq]; omega
theorem fold_gcd_nn : ∀ (l : List Int) (g : Int), 0 ≤ g → 0 ≤ l.foldl gcdI g
  | [], g, h => h
  | c :: l, g, _ => fold_gcd_nn l (gcdI g c) (gcdI_nn g c)
theorem gcdL_nn (l : List Int) : 0 ≤ gcdL l := fold_gcd_nn l 0 (by omega)
theorem fold_gcd_dvd : ∀ (l : List Int) (g : Int), l.foldl gcdI g ∣ g ∧ ∀ c ∈ l, l.foldl gcdI g ∣ c
  | [], g => ⟨Int.dvd_refl _, fun _ h => nomatch h⟩
  | c :: l, g => by
    obtain ⟨h1, h2⟩ := fold_gcd_dvd l (gcdI g c)
    have d1 : gcdI g c ∣ g := Int.gcd_dvd_left _ _
    have d2 : gcdI g c ∣ c := Int.gcd_dvd_right _ _
    rw [List.foldl_cons]
    refine ⟨Int.dvd_trans h1 d1, fun x hx => ?_⟩
    rcases List.mem_cons.mp hx with e | e
    · rw [e]; exact Int.dvd_trans h1 d2
    · exact h2 x e
theorem gcdL_dvd {l : List Int} {c : Int} (h : c ∈ l) : gcdL l ∣ c := (fold_gcd_dvd l 0).2 c h
theorem gcdI_scale (f a b : Int) : gcdI (a * f) (b * f) = gcdI a b * f.natAbs := by
  rw [gcdI_eq, gcdI_eq, Int.gcd_mul_right]
  simp
theorem gcdI_abs (a b f : Int) : gcdI (a * f.natAbs) (b * f) = gcdI a b * f.natAbs := by
  have : gcdI (a * f.natAbs) (b * f) = gcdI (a * f) (b * f) := by
    unfold gcdI
    rw [Int.natAbs_mul, Int.natAbs_mul, Int.natAbs_natCast]
    rw [Int.natAbs_mul a f]
  rw [this, gcdI_scale]
theorem fold_gcd_scale (f : Int) : ∀ (l : List Int) (g : Int), (l.map (· * f)).foldl gcdI (g * f.natAbs) = l.foldl gcdI g * f.natAbs
  | [], g => rfl
  | c :: l, g => by
    rw [List.map_cons, List.foldl_cons, List.foldl_cons, gcdI_abs]
    exact fold_gcd_scale f l (gcdI g c)
theorem gcdL_scale (f : Int) (l : List Int) : gcdL (l.map (· * f)) = gcdL l * f.natAbs := by
  have := fold_gcd_scale f l 0
  rw [Int.zero_mul] at this
  exact this
theorem gcdL_pos {l : List Int} {c : Int} (h : c ∈ l) (h0 : c ≠ 0) : 0 < gcdL l := by
  have := gcdL_nn l
  have d := gcdL_dvd h
  rcases Int.lt_or_eq_of_le this with e | e
  · exact e
  · rw [← e] at d
    exact absurd (Int.zero_dvd.mp d) h0
theorem gcdL_le {l : List Int} {c : Int} (h : c ∈ l) (h0 : c ≠ 0) : (gcdL l).natAbs ≤ c.natAbs := by
  have d := gcdL_dvd h
  exact Nat.le_of_dvd (by omega) (Int.natAbs_dvd_natAbs.mpr d)
/-- the divisor with the sign of the number c -/
def sgnD (g c : Int) : Int := if c < 0 then -g else g
theorem sgnD_ne {g c : Int} (h : 0 < g) : sgnD g c ≠ 0 := by unfold sgnD; split <;> omega
theorem sgnD_abs {g c : Int} (h : 0 < g) : (sgnD g c).natAbs = g.natAbs := by unfold sgnD; split <;> omega
theorem sgnD_dvd {g c x : Int} (h : g ∣ x) : sgnD g c ∣ x := by
  unfold sgnD
  split
  · exact (Int.neg_dvd).mpr h
  · exact h
theorem sgnD_scale {g c f : Int} (h : c ≠ 0) (hf : f ≠ 0) : sgnD (g * f.natAbs) (c * f) = sgnD g c * f := by
  unfold sgnD
  by_cases c0 : c < 0
  · by_cases f0 : f < 0
    · have : ¬ c * f < 0 := by have := Int.mul_pos_of_neg_of_neg c0 f0; omega
      rw [if_neg this, if_pos c0]
      have e : (f.natAbs : Int) = -f := by omega
      rw [e, Int.mul_neg, Int.neg_mul]
    · have : c * f < 0 := Int.mul_neg_of_neg_of_pos c0 (by omega)
      rw [if_pos this, if_pos c0]
      have e : (f.natAbs : Int) = f := by omega
      rw [e, Int.neg_mul]
  · by_cases f0 : f < 0
    · have : c * f < 0 := Int.mul_neg_of_pos_of_neg (by omega) f0
      rw [if_pos this, if_neg c0]
      have e : (f.natAbs : Int) = -f := by omega
      rw [e, Int.mul_neg, Int.neg_neg]
    · have : ¬ c * f < 0 := by have := Int.mul_pos (show 0 < c by omega) (show 0 < f by omega); omega
      rw [if_neg this, if_neg c0]
      have e : (f.natAbs : Int) = f := by omega
      rw [e]
theorem fdiv_scale {c s f : Int} (h : s ∣ c) (hs : s ≠ 0) (hf : f ≠ 0) : (c * f).fdiv (s * f) = c.fdiv s := by
  obtain ⟨q, rfl⟩ := h
  rw [Int.mul_fdiv_cancel_left _ hs]
  have : s * q * f = s * f * q := by rw [Int.mul_assoc, Int.mul_comm q f, ← Int.mul_assoc]
  rw [this, Int.mul_fdiv_cancel_left _ (ne_mul hs hf)]
theorem fdiv_one (c : Int) : c.fdiv 1 = c := by
  have := Int.mul_fdiv_cancel_left (a := 1) c (by decide)
  rwa [Int.one_mul] at this
theorem fdiv_mul {c s : Int} (h : s ∣ c) (hs : s ≠ 0) : c.fdiv s * s = c := by
  obtain ⟨q, rfl⟩ := h
  rw [Int.mul_fdiv_cancel_left _ hs, Int.mul_comm]
end Go
set_option Elab.async false
set_option linter.all false
set_option maxRecDepth 100000
set_option maxHeartbeats 1000000
/-! Sums as data; their one form. -/
namespace Go
open PySem PySem.Spec PyProof.Rows L2 DL
abbrev Tm := Str × Int × Int
abbrev Kk := Str × Int
abbrev Tm.k (t : Tm) : Kk := (t.1, t.2.1)
def pyK (k : Kk) : PyData := .tuple [.str k.1, .int k.2]
def ltK (a b : Kk) : Bool := if a.1 = b.1 then decide (a.2 < b.2) else decide (a.1.cps.toList < b.1.cps.toList)
theorem dataLt_K (a b : Kk) : PySem.W.dataLt (pyK a) (pyK b) = ltK a b := by
  unfold pyK ltK
  rw [PySem.W.dataLt_pair rfl rfl, PySem.W.dataLt_int, PySem.W.dataLt_str]
  have e1 : PyData.eqv (.str a.1) (.str b.1) = decide (a.1 = b.1) := by
    show (a.1 == b.1) = _
    by_cases h : a.1 = b.1
    · rw [h]; simp
    · simp [h]
  have e2 : PyData.eqv (.int a.2) (.int b.2) = decide (a.2 = b.2) := by
    show (a.2 == b.2) = _
    by_cases h : a.2 = b.2
    · rw [h]; simp
    · simp [h]
  rw [e1, e2]
  by_cases h : a.1 = b.1
  · simp only [h, decide_true, if_true]
    by_cases h2 : a.2 = b.2
    · simp [h2]
    · simp [h2]
  · simp [h]
theorem str_ext {a b : Str} (h : a.cps.toList = b.cps.toList) : a = b := by
  cases a with
  | mk x => cases b with
    | mk y =>
      have : x = y := Array.toList_inj.mp h
      rw [this]
theorem ltK_irrefl (a : Kk) : ltK a a = false := by
  unfold ltK; simp
theorem ltK_trans {a b c : Kk} (h1 : ltK a b = true) (h2 : ltK b c = true) : ltK a c = true := by
  unfold ltK at *
  by_cases e1 : a.1 = b.1
  · rw [if_pos e1] at h1
    by_cases e2 : b.1 = c.1
    · rw [if_pos e2] at h2
      rw [if_pos (e1.trans e2)]
      simp only [decide_eq_true_eq] at *
      omega
    · rw [if_neg e2] at h2
      rw [if_neg (by rw [e1]; exact e2), e1]
      exact h2
  · rw [if_neg e1] at h1
    by_cases e2 : b.1 = c.1
    · rw [if_pos e2] at h2
      rw [if_neg (by rw [← e2]; exact e1), ← e2]
      exact h1
    · rw [if_neg e2] at h2
      simp only [decide_eq_true_eq] at h1 h2
      have h3 : a.1.cps.toList < c.1.cps.toList := List.lt_trans h1 h2
      have ne : a.1 ≠ c.1 := fun e => by
        rw [e] at h3
        exact List.lt_irrefl _ h3
      rw [if_neg ne]
      exact decide_eq_true h3
theorem ltK_asymm {a b : Kk} (h1 : ltK a b = true) : ltK b a = false := by
  cases h : ltK b a with
  | false => rfl
  | true => have := ltK_trans h1 h; rw [ltK_irrefl] at this; cases this
theorem ltK_total {a b : Kk} (h : a ≠ b) : ltK a b = true ∨ ltK b a = true := by
  unfold ltK
  by_cases e : a.1 = b.1
  · have ne : a.2 ≠ b.2 := fun z => h (Prod.ext e z)
    rw [if_pos e, if_pos e.symm]
    simp only [decide_eq_true_eq]; omega
  · rw [if_neg e, if_neg (fun z => e z.symm)]
    simp only [decide_eq_true_eq]
    by_cases hl : a.1.cps.toList < b.1.cps.toList
    · exact .inl hl
    · right
      have hle : b.1.cps.toList ≤ a.1.cps.toList := List.not_lt.mp hl
      rcases List.le_iff_lt_or_eq.mp hle with h3 | h3
      · exact h3
      · exact absurd (str_ext h3).symm e
def leK : Kk → Kk → Bool := PySem.W.dataLe false pyK
theorem leK_eq (a b : Kk) : leK a b = !ltK b a := by
  unfold leK
  rw [PySem.W.dataLe_eq]
  show (!PySem.W.dataLt (pyK b) (pyK a)) = _
  rw [dataLt_K]
def sortK (l : List Kk) : List Kk := l.mergeSort leK
theorem sortK_mem {l : List Kk} {k : Kk} : k ∈ sortK l ↔ k ∈ l := (List.mergeSort_perm l leK).mem_iff
theorem sortK_lt {l : List Kk} (nd : l.Nodup) : (sortK l).Pairwise (fun a b => ltK a b = true) := by
  have h := List.pairwise_mergeSort (le := leK) (fun a b c h1 h2 => by
    rw [leK_eq] at *
    rw [Bool.not_eq_true'] at *
    by_cases e1 : a = b
    · rw [e1]; exact h2
    · by_cases e2 : b = c
      · rw [← e2]; exact h1
      · rcases ltK_total e1 with h3 | h3
        · rcases ltK_total e2 with h4 | h4
          · exact ltK_asymm (ltK_trans h3 h4)
          · rw [h4] at h2; cases h2
        · rw [h3] at h1; cases h1) (fun a b => by
    rw [leK_eq, leK_eq, Bool.or_eq_true, Bool.not_eq_true', Bool.not_eq_true']
    by_cases e : a = b
    · rw [e]; exact .inl (ltK_irrefl b)
    · rcases ltK_total e with h | h
      · exact .inl (ltK_asymm h)
      · exact .inr (ltK_asymm h)) l
  have nd' : (sortK l).Nodup := (List.mergeSort_perm l leK).nodup_iff.mpr nd
  refine List.Pairwise.imp₂ (fun a b h1 h2 => ?_) h nd'
  rw [leK_eq, Bool.not_eq_true'] at h1
  rcases ltK_total h2 with z | z
  · exact z
  · rw [z] at h1; cases h1
/-- two ascending lists with the same members -/
theorem asc_eq {α : Type} (lt : α → α → Prop) (irr : ∀ a, ¬ lt a a) (tr : ∀ a b c, lt a b → lt b c → lt a c) : ∀ (l m : List α), l.Pairwise lt → m.Pairwise lt → (∀ a, a ∈ l ↔ a ∈ m) → l = m
  | [], [], _, _, _ => rfl
  | [], b :: m, _, _, h => absurd ((h b).mpr List.mem_cons_self) (by simp)
  | a :: l, [], _, _, h => absurd ((h a).mp List.mem_cons_self) (by simp)
  | a :: l, b :: m, hl, hm, h => by
    obtain ⟨l1, l2⟩ := List.pairwise_cons.mp hl
    obtain ⟨m1, m2⟩ := List.pairwise_cons.mp hm
    have e : a = b := by
      rcases List.mem_cons.mp ((h a).mp List.mem_cons_self) with e | e
      · exact e
      · rcases List.mem_cons.mp ((h b).mpr List.mem_cons_self) with z | z
        · exact z.symm
        · exact absurd (tr _ _ _ (m1 a e) (l1 b z)) (irr b)
    subst e
    rw [asc_eq lt irr tr l m l2 m2 fun c => ?_]
    constructor
    · intro hc
      rcases List.mem_cons.mp ((h c).mp (List.mem_cons_of_mem _ hc)) with z | z
      · subst z; exact absurd (l1 c hc) (irr c)
      · exact z
    · intro hc
      rcases List.mem_cons.mp ((h c).mpr (List.mem_cons_of_mem _ hc)) with z | z
      · subst z; exact absurd (m1 c hc) (irr c)
      · exact z
/-! ### coefficients -/
def cf : List Tm → Kk → Int
  | [], _ => 0
  | t :: ts, k => (if t.k = k then t.2.2 else 0) + cf ts k
theorem cf_append (a b : List Tm) (k : Kk) : cf (a ++ b) k = cf a k + cf b k := by
  induction a with
  | nil => simp [cf]
  | cons t a ih => simp only [List.cons_append, cf, ih]; omega
section
variable {κ β : Type} [DecidableEq κ]
theorem gget_gput (k k' : κ) (v : β) : ∀ a : List (κ × β), gget (gput a k v) k' = if k = k' then some v else gget a k'
  | [] => by
    simp only [gput, gget]
  | p :: r => by
    have ih := gget_gput k k' v r
    unfold gput
    by_cases e : p.1 = k
    · rw [if_pos e]
      unfold gget
      by_cases e2 : k = k'
      · simp [e2]
      · rw [if_neg e2]; simp only [e2, if_false]; rw [if_neg (by rw [e]; exact e2)]
    · rw [if_neg e]
      conv => lhs; unfold gget
      conv => rhs; rhs; unfold gget
      by_cases e3 : p.1 = k'
      · rw [if_pos e3, if_pos e3, if_neg (fun z => e (e3.trans z.symm))]
      · rw [if_neg e3, if_neg e3, ih]
theorem gget_mem {k : κ} {v : β} : ∀ {a : List (κ × β)}, gget a k = some v → k ∈ a.map (·.1)
  | p :: r, h => by
    unfold gget at h
    by_cases e : p.1 = k
    · rw [← e]; exact List.mem_cons_self
    · rw [if_neg e] at h; exact List.mem_cons_of_mem _ (gget_mem h)
theorem gget_none {k : κ} : ∀ {a : List (κ × β)}, k ∉ a.map (·.1) → gget a k = none
  | [], _ => rfl
  | p :: r, h => by
    unfold gget
    rw [if_neg (fun e => h (by rw [← e]; exact List.mem_cons_self))]
    exact gget_none fun z => h (List.mem_cons_of_mem _ z)
theorem gget_some {k : κ} : ∀ {a : List (κ × β)}, k ∈ a.map (·.1) → ∃ v, gget a k = some v
  | p :: r, h => by
    unfold gget
    by_cases e : p.1 = k
    · rw [if_pos e]; exact ⟨_, rfl⟩
    · rw [if_neg e]
      rcases List.mem_cons.mp h with z | z
      · exact absurd z.symm e
      · exact gget_some z
end
/-- the dict's pairs behind the terms -/
def stepM (a : List (Kk × Int)) (t : Tm) : List (Kk × Int) := gput a t.k ((gget a t.k).getD 0 + t.2.2)
def accM (a : List (Kk × Int)) (ts : List Tm) : List (Kk × Int) := ts.foldl stepM a
theorem accM_get : ∀ (ts : List Tm) (a : List (Kk × Int)) (k : Kk), (gget (accM a ts) k).getD 0 = (gget a k).getD 0 + cf ts k
  | [], a, k => by simp [accM, cf]
  | t :: ts, a, k => by
    show (gget (accM (stepM a t) ts) k).getD 0 = _
    rw [accM_get ts, stepM, gget_gput, cf]
    by_cases e : t.k = k
    · rw [if_pos e, if_pos e, e]; simp only [Option.getD_some]; omega
    · rw [if_neg e, if_neg e]; omega
theorem accM_nodup : ∀ (ts : List Tm) (a : List (Kk × Int)), (a.map (·.1)).Nodup → ((accM a ts).map (·.1)).Nodup
  | [], a, h => h
  | t :: ts, a, h => accM_nodup ts _ (gput_keys _ _ a h).1
theorem accM_len : ∀ (ts : List Tm) (a : List (Kk × Int)), (accM a ts).length ≤ a.length + ts.length
  | [], a => Nat.le_refl _
  | t :: ts, a => by
    have h1 := accM_len ts (stepM a t)
    have h2 := gput_length t.k ((gget a t.k).getD 0 + t.2.2) a
    show (accM (stepM a t) ts).length ≤ _
    rw [List.length_cons]
    unfold stepM at h1 ⊢
    omega
/-- the sum in its one form -/
def ordOf (a : List (Kk × Int)) : List Tm := (sortK (a.map (·.1))).filterMap fun k => if (gget a k).getD 0 ≠ 0 then some (k.1, k.2, (gget a k).getD 0) else none
def ordM (ts : List Tm) : List Tm := ordOf (accM [] ts)
def ltT (a b : Tm) : Prop := ltK a.k b.k = true
structure Can (L : List Tm) : Prop where
  lt : L.Pairwise ltT
  ne : ∀ t ∈ L, t.2.2 ≠ 0
theorem ordOf_mem {a : List (Kk × Int)} {t : Tm} : t ∈ ordOf a ↔ (gget a t.k).getD 0 = t.2.2 ∧ t.2.2 ≠ 0 := by
  unfold ordOf
  rw [List.mem_filterMap]
  constructor
  · rintro ⟨k, hk, e⟩
    by_cases z : (gget a k).getD 0 ≠ 0
    · rw [if_pos z] at e; cases e; exact ⟨rfl, z⟩
    · rw [if_neg z] at e; cases e
  · rintro ⟨h1, h2⟩
    refine ⟨t.k, ?_, ?_⟩
    · rw [sortK_mem]
      cases e : gget a t.k with
      | none => rw [e] at h1; exact absurd h1.symm h2
      | some v => exact gget_mem e
    · rw [if_pos (by rw [h1]; exact h2), h1]
theorem ordOf_can {a : List (Kk × Int)} (nd : (a.map (·.1)).Nodup) : Can (ordOf a) := by
  refine ⟨?_, fun t ht => (ordOf_mem.mp ht).2⟩
  unfold ordOf
  refine List.Pairwise.filterMap _ (fun k k' h t ht t' ht' => ?_) (sortK_lt nd)
  by_cases z : (gget a k).getD 0 ≠ 0
  · rw [if_pos z] at ht
    by_cases z' : (gget a k').getD 0 ≠ 0
    · rw [if_pos z'] at ht'; cases ht; cases ht'; exact h
    · rw [if_neg z'] at ht'; cases ht'
  · rw [if_neg z] at ht; cases ht
theorem ordM_can (ts : List Tm) : Can (ordM ts) := ordOf_can (accM_nodup ts [] List.nodup_nil)
theorem ordM_mem {ts : List Tm} {t : Tm} : t ∈ ordM ts ↔ cf ts t.k = t.2.2 ∧ t.2.2 ≠ 0 := by
  unfold ordM
  rw [ordOf_mem, accM_get]
  simp [gget]
theorem can_eq {L M : List Tm} (hL : Can L) (hM : Can M) (h : ∀ t, t ∈ L ↔ t ∈ M) : L = M := asc_eq ltT (fun a z => by unfold ltT at z; rw [ltK_irrefl] at z; cases z) (fun a b c h1 h2 => ltK_trans h1 h2) L M hL.lt hM.lt h
theorem ordM_eq {a b : List Tm} (h : ∀ k, cf a k = cf b k) : ordM a = ordM b := can_eq (ordM_can a) (ordM_can b) fun t => by rw [ordM_mem, ordM_mem, h]
/-- a sum in its form tells its coefficients -/
theorem cf_zero {L : List Tm} {k : Kk} (h : ∀ t ∈ L, t.k ≠ k) : cf L k = 0 := by
  induction L with
  | nil => rfl
  | cons t L ih =>
    simp only [cf]
    rw [if_neg (h t List.mem_cons_self), ih fun u hu => h u (List.mem_cons_of_mem _ hu)]; rfl
theorem Can.tail {t : Tm} {L : List Tm} (h : Can (t :: L)) : Can L := ⟨(List.pairwise_cons.mp h.lt).2, fun u hu => h.ne u (List.mem_cons_of_mem _ hu)⟩
theorem can_cf : ∀ {L : List Tm}, Can L → ∀ {t : Tm}, t ∈ L → cf L t.k = t.2.2
  | u :: L, h, t, ht => by
    have hl := (List.pairwise_cons.mp h.lt).1
    simp only [cf]
    rcases List.mem_cons.mp ht with e | e
    · subst e
      rw [if_pos rfl, cf_zero fun v hv z => ?_]
      · omega
      · have := hl v hv
        unfold ltT at this
        rw [z, ltK_irrefl] at this; cases this
    · rw [if_neg, can_cf h.tail e]
      · omega
      · intro z
        have := hl t e
        unfold ltT at this
        rw [z, ltK_irrefl] at this; cases this
theorem can_mem {L : List Tm} (h : Can L) {t : Tm} : t ∈ L ↔ cf L t.k = t.2.2 ∧ t.2.2 ≠ 0 := by
  refine ⟨fun ht => ⟨can_cf h ht, h.ne t ht⟩, fun ⟨h1, h2⟩ => ?_⟩
  by_cases z : ∃ u ∈ L, u.k = t.k
  · obtain ⟨u, hu, e⟩ := z
    have := can_cf h hu
    rw [e, h1] at this
    have e2 : u = t := by
      have e' : (u.1, u.2.1) = (t.1, t.2.1) := e
      have a1 : u.1 = t.1 := (Prod.mk.inj e').1
      have a2 : u.2.1 = t.2.1 := (Prod.mk.inj e').2
      exact Prod.ext a1 (Prod.ext a2 this.symm)
    rw [← e2]; exact hu
  · exact absurd (by rw [← h1]; exact cf_zero fun u hu e => z ⟨u, hu, e⟩) h2
theorem ordM_self {L : List Tm} (h : Can L) : ordM L = L := can_eq (ordM_can L) h fun t => by rw [ordM_mem, can_mem h]
theorem ordM_cf (ts : List Tm) (k : Kk) : cf (ordM ts) k = cf ts k := by
  by_cases z : cf ts k = 0
  · rw [z]
    refine cf_zero fun t ht e => ?_
    have := ordM_mem.mp ht
    rw [e, z] at this
    exact this.2 this.1.symm
  · have hm : (k.1, k.2, cf ts k) ∈ ordM ts := ordM_mem.mpr ⟨rfl, z⟩
    exact can_cf (ordM_can ts) hm
/-! ### what is done with sums -/
abbrev Pr := Int × Int
def mulM (ps : List Pr) (ts : List Tm) : List Tm := ps.flatMap fun p => ts.map fun t => (t.1, t.2.1 + p.1, p.2 * t.2.2)
def movM (by' : Int) (ts : List Tm) : List Tm := ts.map fun t => (t.1, t.2.1 + by', t.2.2)
theorem cf_mov (b : Int) (ts : List Tm) (k : Kk) : cf (movM b ts) k = cf ts (k.1, k.2 - b) := by
  induction ts with
  | nil => rfl
  | cons t ts ih =>
    show (if Tm.k (t.1, t.2.1 + b, t.2.2) = k then t.2.2 else 0) + cf (movM b ts) k = _
    rw [ih, cf]
    have : Tm.k (t.1, t.2.1 + b, t.2.2) = k ↔ t.k = (k.1, k.2 - b) := by
      constructor
      · intro e
        have a1 : t.1 = k.1 := congrArg Prod.fst e
        have a2 : t.2.1 + b = k.2 := congrArg Prod.snd e
        exact Prod.ext a1 (by show t.2.1 = k.2 - b; omega)
      · intro e
        have a1 : t.1 = k.1 := congrArg Prod.fst e
        have a2 : t.2.1 = k.2 - b := congrArg Prod.snd e
        exact Prod.ext a1 (by show t.2.1 + b = k.2; omega)
    by_cases h : t.k = (k.1, k.2 - b)
    · rw [if_pos (this.mpr h), if_pos h]
    · rw [if_neg fun z => h (this.mp z), if_neg h]
def sumZ : List Int → Int
  | [] => 0
  | x :: xs => x + sumZ xs
theorem cf_scale (b f : Int) (ts : List Tm) (k : Kk) : cf (ts.map fun t => (t.1, t.2.1 + b, f * t.2.2)) k = f * cf ts (k.1, k.2 - b) := by
  induction ts with
  | nil => simp [cf]
  | cons t ts ih =>
    show (if Tm.k (t.1, t.2.1 + b, f * t.2.2) = k then f * t.2.2 else 0) + cf (ts.map fun t => (t.1, t.2.1 + b, f * t.2.2)) k = _
    rw [ih, cf]
    have : Tm.k (t.1, t.2.1 + b, f * t.2.2) = k ↔ t.k = (k.1, k.2 - b) := by
      constructor
      · intro e
        have a1 : t.1 = k.1 := congrArg Prod.fst e
        have a2 : t.2.1 + b = k.2 := congrArg Prod.snd e
        exact Prod.ext a1 (by show t.2.1 = k.2 - b; omega)
      · intro e
        have a1 : t.1 = k.1 := congrArg Prod.fst e
        have a2 : t.2.1 = k.2 - b := congrArg Prod.snd e
        exact Prod.ext a1 (by show t.2.1 + b = k.2; omega)
    by_cases h : t.k = (k.1, k.2 - b)
    · rw [if_pos (this.mpr h), if_pos h, Int.mul_add]
    · rw [if_neg fun z => h (this.mp z), if_neg h, Int.zero_add, Int.zero_add]
theorem cf_mul (ps : List Pr) (ts : List Tm) (k : Kk) : cf (mulM ps ts) k = sumZ (ps.map fun p => p.2 * cf ts (k.1, k.2 - p.1)) := by
  induction ps with
  | nil => rfl
  | cons p ps ih =>
    show cf ((ts.map fun t => (t.1, t.2.1 + p.1, p.2 * t.2.2)) ++ mulM ps ts) k = _
    rw [cf_append, cf_scale, ih]; rfl
theorem mul_congr {ps : List Pr} {a b : List Tm} (h : ∀ k, cf a k = cf b k) (k : Kk) : cf (mulM ps a) k = cf (mulM ps b) k := by
  rw [cf_mul, cf_mul]
  congr 1
  exact List.map_congr_left fun p _ => by rw [h]
/-! ### polynomials -/
def stepP (a : List (Int × Int)) (p : Pr) : List (Int × Int) := gput a p.1 ((gget a p.1).getD 0 + p.2)
def accP (a : List (Int × Int)) (ps : List Pr) : List (Int × Int) := ps.foldl stepP a
def leI (a b : Int) : Bool := decide (a ≤ b)
def polyM (ps : List Pr) : List Pr := (((accP [] ps).map (·.1)).mergeSort leI).filterMap fun k => if (gget (accP [] ps) k).getD 0 ≠ 0 then some (k, (gget (accP [] ps) k).getD 0) else none
def wt (g : Int → Int) (ps : List Pr) : Int := sumZ (ps.map fun p => p.2 * g p.1)
theorem wt_cons (g : Int → Int) (p : Pr) (ps : List Pr) : wt g (p :: ps) = p.2 * g p.1 + wt g ps := rfl
theorem wt_perm (g : Int → Int) {a b : List Pr} (h : a.Perm b) : wt g a = wt g b := by
  induction h with
  | nil => rfl
  | cons x _ ih => rw [wt_cons, wt_cons, ih]
  | swap x y l => rw [wt_cons, wt_cons, wt_cons, wt_cons]; omega
  | trans _ _ h1 h2 => rw [h1, h2]
theorem wt_put (g : Int → Int) (k v : Int) : ∀ a : List (Int × Int), wt g (gput a k ((gget a k).getD 0 + v)) = wt g a + v * g k
  | [] => by
    simp only [gput, gget, wt_cons]
    show (0 + v) * g k + 0 = 0 + v * g k
    rw [Int.zero_add, Int.zero_add, Int.add_zero]
  | p :: r => by
    have ih := wt_put g k v r
    unfold gput gget
    by_cases e : p.1 = k
    · rw [if_pos e, if_pos e, wt_cons, wt_cons, e]
      show (p.2 + v) * g k + _ = _
      rw [Int.add_mul]; omega
    · rw [if_neg e, if_neg e, wt_cons, wt_cons, ih]; omega
theorem wt_acc (g : Int → Int) : ∀ (ps : List Pr) (a : List (Int × Int)), wt g (accP a ps) = wt g a + wt g ps
  | [], a => by show wt g a = wt g a + 0; omega
  | p :: ps, a => by
    show wt g (accP (stepP a p) ps) = _
    rw [wt_acc g ps, stepP, wt_put, wt_cons]; omega
theorem accP_nodup : ∀ (ps : List Pr) (a : List (Int × Int)), (a.map (·.1)).Nodup → ((accP a ps).map (·.1)).Nodup
  | [], a, h => h
  | p :: ps, a, h => accP_nodup ps _ (gput_keys _ _ a h).1
theorem accP_len : ∀ (ps : List Pr) (a : List (Int × Int)), (accP a ps).length ≤ a.length + ps.length
  | [], a => Nat.le_refl _
  | p :: ps, a => by
    have h1 := accP_len ps (stepP a p)
    have h2 := gput_length p.1 ((gget a p.1).getD 0 + p.2) a
    show (accP (stepP a p) ps).length ≤ _
    rw [List.length_cons]
    unfold stepP at h1 ⊢
    omega
theorem pairs_self {a : List (Int × Int)} (nd : (a.map (·.1)).Nodup) : (a.map (·.1)).map (fun k => (k, (gget a k).getD 0)) = a := by
  induction a with
  | nil => rfl
  | cons p r ih =>
    have nd' := List.nodup_cons.mp nd
    have e1 : gget (p :: r) p.1 = some p.2 := by unfold gget; rw [if_pos rfl]
    rw [List.map_cons, List.map_cons, e1]
    show p :: _ = p :: r
    congr 1
    conv => rhs; rw [← ih nd'.2]
    refine List.map_congr_left fun q hq => ?_
    have ne : p.1 ≠ q := fun e => nd'.1 (by rw [← e] at hq; exact hq)
    have e2 : gget (p :: r) q = gget r q := by
      conv => lhs; unfold gget
      rw [if_neg ne]
    rw [e2]
theorem wt_filter (g : Int → Int) (a : List (Int × Int)) : ∀ ks : List Int, wt g (ks.filterMap fun k => if (gget a k).getD 0 ≠ 0 then some (k, (gget a k).getD 0) else none) = wt g (ks.map fun k => (k, (gget a k).getD 0))
  | [] => rfl
  | k :: ks => by
    rw [List.filterMap_cons, List.map_cons, wt_cons]
    by_cases z : (gget a k).getD 0 ≠ 0
    · rw [if_pos z]; simp only [wt_cons]; rw [wt_filter g a ks]
    · rw [if_neg z]
      simp only
      rw [wt_filter g a ks]
      have : (gget a k).getD 0 = 0 := Classical.not_not.mp z
      rw [this]; omega
theorem wt_poly (g : Int → Int) (ps : List Pr) : wt g (polyM ps) = wt g ps := by
  unfold polyM
  rw [wt_filter]
  have nd := accP_nodup ps [] List.nodup_nil
  have h := wt_acc g ps []
  rw [wt_perm g ((List.mergeSort_perm ((accP [] ps).map (·.1)) leI).map _), pairs_self nd, h]
  show 0 + _ = _
  omega
theorem mul_poly (ps : List Pr) (ts : List Tm) (k : Kk) : cf (mulM (polyM ps) ts) k = cf (mulM ps ts) k := by
  rw [cf_mul, cf_mul]
  exact wt_poly (fun b => cf ts (k.1, k.2 - b)) ps
end Go
set_option Elab.async false
set_option linter.all false
set_option maxRecDepth 100000
set_option maxHeartbeats 1000000
/-! What the defs of the law about sums come to. -/
namespace Go
open PySem PySem.Spec PyProof.Rows L2 DL
def tL (t : Tm) : D := .lst [.str t.1, .int t.2.1, .int t.2.2]
def tT (t : Tm) : D := .tup [.str t.1, .int t.2.1, .int t.2.2]
def pL (p : Pr) : D := .lst [.int p.1, .int p.2]
def pT (p : Pr) : D := .tup [.int p.1, .int p.2]
/-- terms, pairs, each a list or a tuple -/
inductive IsTms : List D → List Tm → Prop
  | nil : IsTms [] []
  | lst {t : Tm} {ds : List D} {ts : List Tm} (h : IsTms ds ts) : IsTms (tL t :: ds) (t :: ts)
  | tup {t : Tm} {ds : List D} {ts : List Tm} (h : IsTms ds ts) : IsTms (tT t :: ds) (t :: ts)
inductive IsPrs : List D → List Pr → Prop
  | nil : IsPrs [] []
  | lst {p : Pr} {ds : List D} {ps : List Pr} (h : IsPrs ds ps) : IsPrs (pL p :: ds) (p :: ps)
  | tup {p : Pr} {ds : List D} {ps : List Pr} (h : IsPrs ds ps) : IsPrs (pT p :: ds) (p :: ps)
def IsTerms (d : D) (ts : List Tm) : Prop := ∃ ds, IsTms ds ts ∧ (d = .lst ds ∨ d = .tup ds)
def IsPairs (d : D) (ps : List Pr) : Prop := ∃ ds, IsPrs ds ps ∧ (d = .lst ds ∨ d = .tup ds)
def eTup (L : List Tm) : D := .tup (L.map tT)
def kk (k : Kk) : List Key := [.inr k.1, .inl k.2]
def eKs (L : List Tm) : List (List Key) := L.map fun t => kk (Tm.k t)
def eVs (L : List Tm) : List D := L.map fun t => .int t.2.2
def eDict (L : List Tm) : D := .dt (eKs L) (eVs L)
def ePoly (P : List Pr) : D := .tup (P.map pT)
def ePDict (P : List Pr) : D := .dk (P.map fun p => .inl p.1) (P.map fun p => .int p.2)
/-- bounds: coefficients below 2 ^ B -/
def Bd (B : Nat) (ts : List Tm) : Prop := ∀ t ∈ ts, t.2.2.natAbs < 2 ^ B
def BdP (B : Nat) (ps : List Pr) : Prop := ∀ p ∈ ps, p.2.natAbs < 2 ^ B
/-- names are texts that can be compared -/
def NOk (ts : List Tm) : Prop := ∀ t ∈ ts, PyData.strOk t.1 = true
/-! ### the package -/
def partM (L : List Tm) (n : Str) : List Pr := L.filterMap fun t => if t.1 = n then some (t.2.1, t.2.2) else none
/-- the rows of an ascending sum, each once -/
def rowsM : List Tm → List Str
  | [] => []
  | t :: ts => match rowsM ts with
    | [] => [t.1]
    | r :: rs => if t.1 = r then r :: rs else t.1 :: r :: rs
/-! ### the law's own -/
def fr_law_poly (ds : List D) (r : Res) : Prop := ∃ (d : D) (ps : List Pr), IsPairs d ps ∧ ps.length ≤ 4000000 ∧ ds = [d] ∧ r = .ok (ePDict (polyM ps))
def fr_law_is_poly (ds : List D) (r : Res) : Prop := ∃ P : List Pr, P.length ≤ 1000000 ∧ P.Pairwise (fun a b => a.1 < b.1) ∧ (∀ p ∈ P, p.2 ≠ 0) ∧ ds = [ePoly P] ∧ r = .ok (.bl true)
def coefM (k a b : Int) : Int :=
  if k = 0 then 0 else if k < 5 then a % 9 - 4 else if k = 5 then (if a % 2 = 0 then 1 else -1) else if k = 6 then 6 * (a % 21 - 10) else if k = 7 then a % 2001 - 1000
  else if k = 8 then [1000000000, -1000000000, 999999999, -999999999, 999999937, -536870912].getD (a % 6).toNat 0
  else if k = 9 then (a + 100000 * b) % 2000000001 - 1000000000 else if k = 10 then a % 25 - 12 else 30030 * (a % 65 - 32)
def fr_law_coefficient (ds : List D) (r : Res) : Prop := ∃ k a b : Int, 0 ≤ a ∧ a < 100000 ∧ 0 ≤ b ∧ b < 100000 ∧ ds = [.int k, .int a, .int b] ∧ r = .ok (.int (coefM k a b))
theorem coefM_bound (k a b : Int) : (coefM k a b).natAbs ≤ 1000000000 := by
  unfold coefM
  repeat' split
  all_goals try omega
  have h : a % 6 = 0 ∨ a % 6 = 1 ∨ a % 6 = 2 ∨ a % 6 = 3 ∨ a % 6 = 4 ∨ a % 6 = 5 := by omega
  rcases h with h | h | h | h | h | h <;> rw [h] <;> decide
/-- what is passed: by its form -/
def mixT : List Tm → List D
  | a :: b :: c :: r => tT a :: tL b :: tL c :: r.map tT
  | [a, b] => [tT a, tL b]
  | [a] => [tT a]
  | [] => []
def mixP : List Pr → List D
  | a :: b :: c :: r => pT a :: pL b :: pL c :: r.map pT
  | [a, b] => [pT a, pL b]
  | [a] => [pT a]
  | [] => []
def passT (ts : List Tm) (f : Int) : D := if f = 0 then .lst (ts.map tL) else if f = 1 then .lst (ts.map tT) else if f = 2 then .tup (ts.map tL) else if f = 3 then .tup (ts.map tT) else .lst (mixT ts)
def passP (ps : List Pr) (f : Int) : D := if f = 0 then .lst (ps.map pL) else if f = 1 then .lst (ps.map pT) else if f = 2 then .tup (ps.map pL) else if f = 3 then .tup (ps.map pT) else .lst (mixP ps)
def fr_law_passed (ds : List D) (r : Res) : Prop := ∃ (ps : List Pr) (f : Int), ps.length ≤ 1000 ∧ ds = [.lst (ps.map pL), .int f] ∧ r = .ok (passP ps f)
theorem isTms_L : ∀ ts : List Tm, IsTms (ts.map tL) ts
  | [] => .nil
  | _ :: r => .lst (isTms_L r)
theorem isTms_T : ∀ ts : List Tm, IsTms (ts.map tT) ts
  | [] => .nil
  | _ :: r => .tup (isTms_T r)
theorem isPrs_L : ∀ ts : List Pr, IsPrs (ts.map pL) ts
  | [] => .nil
  | _ :: r => .lst (isPrs_L r)
theorem isPrs_T : ∀ ts : List Pr, IsPrs (ts.map pT) ts
  | [] => .nil
  | _ :: r => .tup (isPrs_T r)
theorem passT_is (ts : List Tm) (f : Int) : IsTerms (passT ts f) ts := by
  unfold passT
  split
  · exact ⟨_, isTms_L ts, .inl rfl⟩
  · split
    · exact ⟨_, isTms_T ts, .inl rfl⟩
    · split
      · exact ⟨_, isTms_L ts, .inr rfl⟩
      · split
        · exact ⟨_, isTms_T ts, .inr rfl⟩
        · refine ⟨_, ?_, .inl rfl⟩
          unfold mixT; split
          · exact .tup (.lst (.lst (isTms_T _)))
          · exact .tup (.lst .nil)
          · exact .tup .nil
          · exact .nil
theorem passP_is (ts : List Pr) (f : Int) : IsPairs (passP ts f) ts := by
  unfold passP
  split
  · exact ⟨_, isPrs_L ts, .inl rfl⟩
  · split
    · exact ⟨_, isPrs_T ts, .inl rfl⟩
    · split
      · exact ⟨_, isPrs_L ts, .inr rfl⟩
      · split
        · exact ⟨_, isPrs_T ts, .inr rfl⟩
        · refine ⟨_, ?_, .inl rfl⟩
          unfold mixP; split
          · exact .tup (.lst (.lst (isPrs_T _)))
          · exact .tup (.lst .nil)
          · exact .tup .nil
          · exact .nil
/-! ### what is drawn -/
def szN : List Int := [7] ++ (List.replicate 6 ([10, 26] ++ (List.replicate 9 [36]).flatten)).flatten
def szT : List Int := [12, 61, 41, 8, 16, 4, 6] ++ (List.replicate 60 [6, 41, 12, 100000, 100000]).flatten
def szP : List Int := [8, 41, 41, 4] ++ (List.replicate 40 [41, 12, 100000, 100000]).flatten
def signs : Str := "abcdefghijklmnopqrstuvwxyz0123456789"
def signAt (i : Int) : Str := ⟨#[(signs.cps.toList).getD i.toNat 0]⟩
def menusM : List (List Str) := [["a", "b", "c", "d", "e", "f"], ["x1", "x10", "x2", "x9", "x", "xx"], ["b", "aa", "ab1", "a9", "ba", "c"], ["level", "levels", "pump", "valve", "z", "aa"], ["z9z9z9z9z9", "z9z9z9z9z", "z", "za", "z0", "zz"]]
def fullM (row : List Int) (k : Nat) : Str := signAt (nth row (2 + 11 * k)) ++ Txt.join "" ((List.range 9).map fun j => signAt (nth row (3 + 11 * k + j)))
def namesM (c : Int) : List Str :=
  let row := digM c szN
  if nth row 0 < 5 then menusM.getD (nth row 0).toNat [] else (List.range 6).map fun k => cutS (fullM row k) none (some (1 + nth row (1 + 11 * k)))
def manyT (row : List Int) : Int :=
  let menu := [nth row 1, 60, nth row 1 % 17, 2 + nth row 1 % 9, nth row 1 % 3]
  nth menu (nth [0, 1, 2, 2, 2, 3, 3, 3, 3, 3, 3, 4] (nth row 0).toNat).toNat
def baseT (ns : List Str) (row : List Int) : List Tm := (List.range (manyT row).toNat).map fun k =>
  (ns.getD (nth row (7 + 5 * k) % (1 + nth row 6)).toNat "", (nth row 2 + nth row (8 + 5 * k) % nth [2, 3, 4, 5, 6, 8, 1, 41] (nth row 3).toNat) % 41 - 20, coefM (nth row (9 + 5 * k)) (nth row (10 + 5 * k)) (nth row (11 + 5 * k)))
def negT (ts : List Tm) : List Tm := ts.map fun t => (t.1, t.2.1, -t.2.2)
def sclT (f : Int) (ts : List Tm) : List Tm := ts.map fun t => (t.1, t.2.1, t.2.2 * f)
def facT (row : List Int) : Int := nth [2, -3, 1000, 12] (nth row 5).toNat
def drawnM (ns : List Str) (row : List Int) : List Tm :=
  let ts := baseT ns row
  let many := manyT row
  if nth row 4 = 0 ∧ 2 * many ≤ 60 then ts ++ negT ts
  else if nth row 4 = 1 ∧ 2 * many ≤ 60 then negT (ts.take (many / 2).toNat) ++ ts
  else if nth row 4 = 2 ∧ (∀ t ∈ ts, (t.2.2 * facT row).natAbs ≤ 1000000000) then sclT (facT row) ts
  else ts
def rawM (ns : List Int) (k : Nat) (names : List Str) : List Tm := drawnM names (digM (cellM ns k) szT)
def otherM (ts : List Tm) (d : Int) (ns : List Str) : List Tm :=
  if d = 0 ∧ 2 * ts.length ≤ 60 then (ts.map fun t => (t.1, t.2.1, t.2.2 - t.2.2 / 2)) ++ ts.map fun t => (t.1, t.2.1, t.2.2 / 2)
  else if d = 1 ∧ ts.length + 2 ≤ 60 then [(ns.getD 5 "", 20, 0)] ++ ts ++ [(ns.getD 4 "", -20, 0)]
  else ts.reverse
def manyP (row : List Int) : Int := nth [nth row 1, nth row 1 % 9, nth row 1 % 5, 1] (nth [0, 1, 1, 2, 2, 2, 3, 3] (nth row 0).toNat).toNat
def pairsM (c : Int) : List Pr :=
  let row := digM c szP
  (List.range (manyP row).toNat).map fun k => ((nth row 2 + nth row (4 + 4 * k) % nth [2, 3, 5, 41] (nth row 3).toNat) % 41 - 20, coefM (nth row (5 + 4 * k)) (nth row (6 + 4 * k)) (nth row (7 + 4 * k)))
end Go
set_option Elab.async false
set_option linter.all false
set_option maxRecDepth 100000
set_option maxHeartbeats 1000000
/-! What the defs of the law about polynomials come to. -/
namespace Go
open PySem PySem.Spec PyProof.Rows L2 DL
def mulP (ps qs : List Pr) : List Pr := ps.flatMap fun p => qs.map fun q => (p.1 + q.1, p.2 * q.2)
structure PCan (P : List Pr) : Prop where
  lt : P.Pairwise (fun a b => a.1 < b.1)
  ne : ∀ p ∈ P, p.2 ≠ 0
def fstS : List Pr → Int
  | [] => 0
  | p :: _ => p.1
def lastP : List Pr → Pr
  | [] => (0, 0)
  | [p] => p
  | _ :: p :: r => lastP (p :: r)
def cntP (P : List Pr) : Int := gcdL (P.map (·.2))
def sgP (P : List Pr) : Int := sgnD (cntP P) (lastP P).2
def nrmP (P : List Pr) : List Pr := P.map fun q => (q.1 - fstS P, q.2.fdiv (sgP P))
/-! ### the package -/
def frcleaned (ds : List D) (r : Res) : Prop := ∃ (d : D) (ps : List Pr), IsPairs d ps ∧ ps.length ≤ 4000000 ∧ ds = [d] ∧ r = .ok (ePoly (polyM ps))
def frproduct_of (ds : List D) (r : Res) : Prop := ∃ (d e : D) (ps qs : List Pr), IsPairs d ps ∧ IsPairs e qs ∧ ps.length ≤ 1000 ∧ qs.length ≤ 1000 ∧ BdP 20000 ps ∧ BdP 20000 qs ∧ ds = [d, e] ∧ r = .ok (ePoly (polyM (mulP ps qs)))
def frspread (ds : List D) (r : Res) : Prop := ∃ P : List Pr, P ≠ [] ∧ ds = [ePoly P] ∧ r = .ok (.int ((lastP P).1 - fstS P))
def frcontent (ds : List D) (r : Res) : Prop := ∃ P : List Pr, P.length ≤ 4000000 ∧ ds = [ePoly P] ∧ r = .ok (.int (cntP P))
def frnormal (ds : List D) (r : Res) : Prop := ∃ P : List Pr, PCan P ∧ P.length ≤ 4000000 ∧ BdP 8000 P ∧ ds = [ePoly P] ∧ r = .ok (ePoly (nrmP P))
def frpolynomial (ds : List D) (r : Res) : Prop := frcleaned ds r
def frnormal_polynomial (ds : List D) (r : Res) : Prop := ∃ (d : D) (ps : List Pr), IsPairs d ps ∧ ps.length ≤ 4000000 ∧ BdP 8000 (polyM ps) ∧ ds = [d] ∧ r = .ok (ePoly (nrmP (polyM ps)))
def frspan (K : PySem.W.Frag) (ds : List D) (r : Res) : Prop := ∃ (d : D) (ps : List Pr), IsPairs d ps ∧ ps.length ≤ 4000000 ∧ ds = [d] ∧ ((polyM ps ≠ [] ∧ r = .ok (.int ((lastP (polyM ps)).1 - fstS (polyM ps)))) ∨ (polyM ps = [] ∧ r = .er (He.ga K "ZeroPolynomial") []))
def frpoly_plus (ds : List D) (r : Res) : Prop := ∃ (d e : D) (ps qs : List Pr), IsPairs d ps ∧ IsPairs e qs ∧ ps.length ≤ 1000000 ∧ qs.length ≤ 1000000 ∧ ds = [d, e] ∧ r = .ok (ePoly (polyM (ps ++ qs)))
def frpoly_times (ds : List D) (r : Res) : Prop := frproduct_of ds r
/-! ### the law's own -/
def fr_law_add (ds : List D) (r : Res) : Prop := ∃ P Q : List Pr, PCan P ∧ PCan Q ∧ P.length ≤ 1000000 ∧ Q.length ≤ 1000000 ∧ BdP 20000 Q ∧ ds = [ePDict P, ePDict Q, .int 1] ∧ r = .ok (ePDict (polyM (P ++ Q)))
def fr_law_mul (ds : List D) (r : Res) : Prop := ∃ P Q : List Pr, PCan P ∧ PCan Q ∧ P.length ≤ 1000 ∧ Q.length ≤ 1000 ∧ BdP 20000 P ∧ BdP 20000 Q ∧ ds = [ePDict P, ePDict Q] ∧ r = .ok (ePDict (polyM (mulP P Q)))
def fr_law_pairs (ds : List D) (r : Res) : Prop := ∃ P : List Pr, PCan P ∧ P.length ≤ 4000000 ∧ ds = [ePDict P] ∧ r = .ok (ePoly P)
def fr_law_normal (ds : List D) (r : Res) : Prop := ∃ P : List Pr, PCan P ∧ P.length ≤ 4000000 ∧ BdP 8000 P ∧ ds = [ePDict P] ∧ r = .ok (ePDict (nrmP P))
def fr_law_is (ds : List D) (r : Res) : Prop := ∃ P : List Pr, PCan P ∧ P.length ≤ 1000000 ∧ ds = [ePoly P, ePDict P] ∧ r = .ok (.bl true)
def szR : List Int := [12, 41, 41, 8, 12, 4, 5, 9, 5, 3] ++ (List.replicate 40 [41, 12, 100000, 100000]).flatten
def menuR (row : List Int) : List Int := [nth row 1, 40, nth row 1 % 13, 2 + nth row 1 % 6, nth row 1 % 3]
def manyR (row : List Int) : Int := nth (menuR row) (nth [0, 1, 2, 2, 3, 3, 3, 3, 3, 3, 3, 4] (nth row 0).toNat).toNat
def wideR (row : List Int) : Int := nth [3, 4, 5, 6, 8, 12, 1, 41] (nth row 3).toNat
def facQ (row : List Int) : Int := nth [2, -3, 1000, 12] (nth row 5).toNat
def pairR (row : List Int) (k : Nat) : Pr := ((nth row 2 + nth row (10 + 4 * k) % wideR row) % 41 - 20, coefM (nth row (10 + 4 * k + 1)) (nth row (10 + 4 * k + 2)) (nth row (10 + 4 * k + 3)))
def baseR (row : List Int) : List Pr := (List.range (manyR row).toNat).map (pairR row)
def negP (ps : List Pr) : List Pr := ps.map fun p => (p.1, -p.2)
def sclP (f : Int) (ps : List Pr) : List Pr := ps.map fun p => (p.1, p.2 * f)
def drawnR (row : List Int) : List Pr := let b := baseR row
  if nth row 4 = 0 ∧ 2 * manyR row ≤ 40 then b ++ negP b else if nth row 4 = 1 ∧ 2 * manyR row ≤ 40 then negP (b.take (manyR row / 2).toNat) ++ b
  else if nth row 4 = 2 ∧ (∀ p ∈ b, (p.2 * facQ row).natAbs ≤ 1000000000) then sclP (facQ row) b else b
def fr_law_drawn (ds : List D) (r : Res) : Prop := ∃ row : List Int, rowOk szR row ∧ ds = [.lst (row.map D.int)] ∧ r = .ok (.lst ((drawnR row).map pL))
def otherR (ps : List Pr) (d : Int) : List Pr :=
  if d = 0 ∧ 2 * ps.length ≤ 40 then (ps.map fun p => (p.1, p.2 / 2)) ++ ps.map fun p => (p.1, p.2 - p.2 / 2)
  else if d = 1 ∧ ps.length + 2 ≤ 40 then [(20, 0)] ++ ps ++ [(-20, 0)] else ps.reverse
def fr_law_other_pairs (ds : List D) (r : Res) : Prop := ∃ (ps : List Pr) (d : Int), ps.length ≤ 1000 ∧ ds = [.lst (ps.map pL), .int d] ∧ r = .ok (.lst ((otherR ps d).map pL))
def fr_law_another (K : PySem.W.Frag) (a C : Addr) (ds : List D) (r : Res) : Prop := C = He.ga K "ZeroPolynomial" ∧ ds = [.cls a] ∧ r = .ok (.bl false)
def fr_law_spanless (ds : List D) (r : Res) : Prop := ∃ (d : D) (ps : List Pr), IsPairs d ps ∧ ps.length ≤ 4000000 ∧ polyM ps = [] ∧ ds = [d] ∧ r = .ok (.bl true)
def fr_law_alone (ds : List D) (r : Res) : Prop := ∃ (d : D) (ps : List Pr), IsPairs d ps ∧ ps.length ≤ 1000000 ∧ BdP 8000 (polyM ps) ∧ ds = [d, ePDict (polyM ps)] ∧ r = .ok (.bl true)
def fr_law_right (ds : List D) (r : Res) : Prop := ∃ (d e : D) (ps qs : List Pr), IsPairs d ps ∧ IsPairs e qs ∧ ps.length ≤ 1000 ∧ qs.length ≤ 1000 ∧ BdP 10000 ps ∧ BdP 10000 qs ∧ ds = [d, e, ePDict (polyM ps), ePDict (polyM qs)] ∧ r = .ok (.bl true)
def nextP (op : Int) (ps qs : List Pr) : List Pr :=
  if op = 0 then polyM (mulP ps qs) else if op = 1 then polyM (ps ++ qs) else if op = 2 then [] else if op = 3 then polyM (mulP ps [(3, 1)] ++ qs) else polyM (mulP (ps ++ qs) (ps ++ qs))
def fr_law_next (ds : List D) (r : Res) : Prop := ∃ (op : Int) (d e : D) (ps qs : List Pr), 0 ≤ op ∧ IsPairs d ps ∧ IsPairs e qs ∧ ps.length ≤ 200 ∧ qs.length ≤ 200 ∧ BdP 8000 ps ∧ BdP 8000 qs ∧ ds = [.int op, d, e, ePDict (polyM ps), ePDict (polyM qs)] ∧ r = .ok (.lst [ePoly (nextP op ps qs), ePDict (nextP op ps qs)])
def frlaw (ds : List D) (r : Res) : Prop := ∃ ns : List Int, ns.length ≤ 100000 ∧ ds = [.scr ns] ∧ r = .ok (.bl true)
/-- what the written part says of the classes -/
structure KF (K : PySem.W.Frag) : Prop where
  ex : ExcC K (He.ga K "ZeroPolynomial")
  m1 : PySem.W.exmOne K (.ref (He.ga K "ZeroPolynomial")) (.ref (He.ga K "ZeroPolynomial")) = some true
  m2 : PySem.W.exmOne K (.ref (He.ga K "ZeroPolynomial")) (.ref (He.ga K "RowError")) = some true
  i1 : PySem.W.kitOne K (.ref (He.ga K "ZeroPolynomial")) (.ref (He.ga K "RowError")) = some true
  i2 : PySem.W.kitOne K (.ref (He.ga K "ZeroPolynomial")) (.type "ValueError") = some true
  i3 : PySem.W.kitOne K (.ref (He.ga K "ZeroPolynomial")) (.ref (He.ga K "ZeroPolynomial")) = some true
  an : PySem.W.kitAny K (.ref (He.ga K "ZeroPolynomial")) ((["BadName", "BadNotation", "BadParts", "BadStretch", "Barred", "BreaksOwnRule", "Broken", "CannotStand", "Contradiction", "NoFamilies", "NoQuotient", "NoRows", "NotBlocked", "NotCourse", "NotEntered", "NotFinite", "NotFree", "NotLet", "NotStricter", "NotTimely", "NothingToUndo", "RowTwice", "RowsDiffer", "ShortStretch", "SpotTwice", "TooLong", "UnknownRow", "Unsure", "ZeroSum"] : List Str).map fun x => .ref (He.ga K x)) = some false
end Go
set_option Elab.async false
set_option linter.all false
set_option maxRecDepth 100000
set_option maxHeartbeats 4000000
namespace Go
open PySem PySem.Spec PyProof.Rows L2 DL
def tcleaned (K : PySem.W.Frag) (W : WX) : TS :=
  (tSeq (tAsg tDNewK (gName 1))
    (tSeq (tFor (iSeq K (tVar 0)) (gSeqA K 2 (gCons (gName 2) (gCons (gName 3) gNil))) (sDPut (tVar 1) (tVar 2) (tOp (rAddA K) (tDGet2 (tVar 1) (tVar 2) (tC (.int 0))) (tVar 3))))
    (tRet (tCB (rTupC K) (tCons (tLc (iSeq K (tCB rSortK (tCons (tVar 1) tNil))) (gName 2) (tTest (tOp (rNeD K) (tDGet (tVar 1) (tVar 2)) (tC (.int 0)))) (tTup (tCons (tVar 2) (tCons (tDGet (tVar 1) (tVar 2)) tNil))) [2]) tNil)))))
theorem calcleaned {P : Program} {w : World} {K : PySem.W.Frag} {mg : Str → Option Value} {base : Heap} (A : FunAt K mg "cleaned" scleaned Pcleaned) (B : Bt K mg)
    (pr : ∀ W ds r, frcleaned ds r → FnEnd K W (tcleaned K W) (entry Ncleaned ds) r) : Cal P w K mg base 1 "cleaned" Pcleaned frcleaned := by
  have sc := sccleaned
  refine cal_of A sc _ fun f cdv A outer s H E hr => ⟨tcleaned K (wD E), ?_, fun ds r h _ => pr _ ds r h⟩
  have tk : L2N.Takes (cxD P w K mg base Ncleaned "cleaned" scleaned f cdv A outer s H E) (wD E) := L2N.takes_of rfl rfl rfl rfl
  have hp : PassesOwn (model P w) (cxD P w K mg base Ncleaned "cleaned" scleaned f cdv A outer s H E).A (cxD P w K mg base Ncleaned "cleaned" scleaned f cdv A outer s H E).env (cxD P w K mg base Ncleaned "cleaned" scleaned f cdv A outer s H E).xe := passes_of rfl
  exact (pss_cons (ps_set (i := 1) sc.nd rfl (Or.inr rfl) pe_dnewK)
    (pss_cons (ps_for hp rfl (pi_seq (pv 0)) (pg_seqA rfl (pgs_cons (pg_name (i := 2) sc.nd rfl (Or.inl rfl)) (pgs_cons (pg_name (i := 3) sc.nd rfl (Or.inl rfl)) pgs_nil))) (pss_one (ps_dput (hu_of hr) (pv 1) (pv 2) (pe_op opA_add (pe_dget2 (hu_of hr) (pv 1) (pv 2) pe_int ⟨rfl, rfl, rfl, rfl⟩) (pv 3)) rfl)))
    (pss_one (ps_ret (pe_callTy call_tuple_of (by rfl) B.b_tuple (by decide +kernel) (pa_cons (pe_lc (own := [("shift", 2)]) (tt := (tTest (tOp (rNeD K) (tDGet (tVar 1) (tVar 2)) (tC (.int 0))))) rfl sc.nd (pi_seq (pe_callB (cr_sortK rfl hr.units) (by rfl) B.b_sorted (by decide +kernel) (pa_cons (pv 1) pa_nil))) (blkOk_by (N := Ncleaned) (sc := defScope scleaned) (by decide +kernel)) (fun _ _ _ _ _ => (pg_name (i := 2) sc.nd rfl (Or.inl rfl))) (fun _ _ _ _ _ => (pts_one (pt_cmpR (op_neD hr.units) (pe_dget (hu_of hr) (pv 1) (pv 2) (fun _ _ => rfl)) pe_int (nomark _)))) (fun _ _ _ _ _ => (pe_tup (pa_cons (pv 2) (pa_cons (pe_dget (hu_of hr) (pv 1) (pv 2) (fun _ _ => rfl)) pa_nil))))) pa_nil))))))
def tproduct_of (K : PySem.W.Frag) (W : WX) : TS :=
  (tRet (tCallS (SpF K Pcleaned.length frcleaned) (WE W) (tCons (tLc2 (iSeq K (tVar 0)) (gSeqA K 2 (gCons (gName 2) (gCons (gName 3) gNil))) tYes (iSeq K (tVar 1)) (gSeqA K 2 (gCons (gName 4) (gCons (gName 5) gNil))) tYes (tTup (tCons (tOp (rAddA K) (tVar 4) (tVar 2)) (tCons (tOp rMulA (tVar 3) (tVar 5)) tNil))) [2, 3, 4, 5] [4, 5]) tNil)))
theorem calproduct_of {P : Program} {w : World} {K : PySem.W.Frag} {mg : Str → Option Value} {base : Heap} (A : FunAt K mg "product_of" sproduct_of Pproduct_of) (B : Bt K mg) (ccleaned : Cal P w K mg base 1 "cleaned" Pcleaned frcleaned)
    (pr : ∀ W ds r, frproduct_of ds r → FnEnd K W (tproduct_of K W) (entry Nproduct_of ds) r) : Cal P w K mg base 2 "product_of" Pproduct_of frproduct_of := by
  have sc := scproduct_of
  refine cal_of A sc _ fun f cdv A outer s H E hr => ⟨tproduct_of K (wD E), ?_, fun ds r h _ => pr _ ds r h⟩
  have tk : L2N.Takes (cxD P w K mg base Nproduct_of "product_of" sproduct_of f cdv A outer s H E) (wD E) := L2N.takes_of rfl rfl rfl rfl
  have hp : PassesOwn (model P w) (cxD P w K mg base Nproduct_of "product_of" sproduct_of f cdv A outer s H E).A (cxD P w K mg base Nproduct_of "product_of" sproduct_of f cdv A outer s H E).env (cxD P w K mg base Nproduct_of "product_of" sproduct_of f cdv A outer s H E).xe := passes_of rfl
  exact (pss_one (ps_ret (pe_callD ccleaned (hr.mono (by decide)) (by rfl) tk (pa_cons (pe_lc2 (own := [("by", 2), ("factor", 3), ("shift", 4), ("coefficient", 5)]) (vs1 := [4, 5]) (tt := tYes) (tt1 := tYes) rfl sc.nd (pi_seq (pv 0)) (blkOk_by (N := Nproduct_of) (sc := defScope sproduct_of) (by decide +kernel)) (by decide) (fun _ _ _ _ _ => (pg_seqA rfl (pgs_cons (pg_name (i := 2) sc.nd rfl (Or.inl rfl)) (pgs_cons (pg_name (i := 3) sc.nd rfl (Or.inl rfl)) pgs_nil)))) (fun _ _ _ _ _ => pts_nil) (fun _ _ _ _ _ => (pi_seq (pv 1))) (fun _ _ _ _ _ => (pg_seqA rfl (pgs_cons (pg_name (i := 4) sc.nd rfl (Or.inl rfl)) (pgs_cons (pg_name (i := 5) sc.nd rfl (Or.inl rfl)) pgs_nil)))) (fun _ _ _ _ _ => pts_nil) (fun _ _ _ _ _ => (pe_tup (pa_cons (pe_op opA_add (pv 4) (pv 2)) (pa_cons (pe_op opA_mul (pv 3) (pv 5)) pa_nil))))) pa_nil))))
def tspread (K : PySem.W.Frag) (W : WX) : TS :=
  (tRet (tOp (rI0 fun i j => .int (i - j)) (tOp (rIxA K) (tOp (rIxA K) (tVar 0) (tUn (rU fun i => .int (-i)) (tC (.int 1)))) (tC (.int 0))) (tOp (rIxA K) (tOp (rIxA K) (tVar 0) (tC (.int 0))) (tC (.int 0)))))
theorem calspread {P : Program} {w : World} {K : PySem.W.Frag} {mg : Str → Option Value} {base : Heap} (A : FunAt K mg "spread" sspread Pspread) (B : Bt K mg)
    (pr : ∀ W ds r, frspread ds r → FnEnd K W (tspread K W) (entry Nspread ds) r) : Cal P w K mg base 1 "spread" Pspread frspread := by
  have sc := scspread
  refine cal_of A sc _ fun f cdv A outer s H E hr => ⟨tspread K (wD E), ?_, fun ds r h _ => pr _ ds r h⟩
  have tk : L2N.Takes (cxD P w K mg base Nspread "spread" sspread f cdv A outer s H E) (wD E) := L2N.takes_of rfl rfl rfl rfl
  have hp : PassesOwn (model P w) (cxD P w K mg base Nspread "spread" sspread f cdv A outer s H E).A (cxD P w K mg base Nspread "spread" sspread f cdv A outer s H E).env (cxD P w K mg base Nspread "spread" sspread f cdv A outer s H E).xe := passes_of rfl
  exact (pss_one (ps_ret (pe_op op_sub (pe_ix ix_any (pe_ix ix_any (pv 0) (pe_un un_neg pe_int) (fun _ _ => rfl)) pe_int (fun _ _ => rfl)) (pe_ix ix_any (pe_ix ix_any (pv 0) pe_int (fun _ _ => rfl)) pe_int (fun _ _ => rfl)))))
def tcontent (K : PySem.W.Frag) (W : WX) : TS :=
  (tSeq (tAsg (tC (.int 0)) (gName 1))
    (tSeq (tFor (iSeq K (tVar 0)) (gSeqA K 2 (gCons (gName 2) (gCons (gName 3) gNil))) (tSeq (tAsg (tCB rGcd (tCons (tVar 1) (tCons (tVar 3) tNil))) (gName 1))
    (tIfS (tTest (tOp (rEqD K) (tVar 1) (tC (.int 1)))) (tRet (tC (.int 1))) tNext)))
    (tRet (tVar 1))))
theorem calcontent {P : Program} {w : World} {K : PySem.W.Frag} {mg : Str → Option Value} {base : Heap} (A : FunAt K mg "content" scontent Pcontent) (B : Bt K mg)
    (pr : ∀ W ds r, frcontent ds r → FnEnd K W (tcontent K W) (entry Ncontent ds) r) : Cal P w K mg base 1 "content" Pcontent frcontent := by
  have sc := sccontent
  refine cal_of A sc _ fun f cdv A outer s H E hr => ⟨tcontent K (wD E), ?_, fun ds r h _ => pr _ ds r h⟩
  have tk : L2N.Takes (cxD P w K mg base Ncontent "content" scontent f cdv A outer s H E) (wD E) := L2N.takes_of rfl rfl rfl rfl
  have hp : PassesOwn (model P w) (cxD P w K mg base Ncontent "content" scontent f cdv A outer s H E).A (cxD P w K mg base Ncontent "content" scontent f cdv A outer s H E).env (cxD P w K mg base Ncontent "content" scontent f cdv A outer s H E).xe := passes_of rfl
  exact (pss_cons (ps_set (i := 1) sc.nd rfl (Or.inl rfl) pe_int)
    (pss_cons (ps_for hp rfl (pi_seq (pv 0)) (pg_seqA rfl (pgs_cons (pg_name (i := 2) sc.nd rfl (Or.inl rfl)) (pgs_cons (pg_name (i := 3) sc.nd rfl (Or.inl rfl)) pgs_nil))) (pss_cons (ps_set (i := 1) sc.nd rfl (Or.inl rfl) (pe_callBfun cr_gcd (by rfl) B.g_gcd (pa_cons (pv 1) (pa_cons (pv 3) pa_nil))))
    (pss_one (ps_if (pt_cmpR (op_eqD hr.units) (pv 1) pe_int (nomark _)) (pss_one (ps_ret pe_int)) pss_nil))))
    (pss_one (ps_ret (pv 1)))))
def tnormal (K : PySem.W.Frag) (W : WX) : TS :=
  (tSeq (tIfS (tNot (tTru K (tVar 0))) (tRet (tTup tNil)) tNext)
    (tSeq (tAsg (tCallS (SpF K Pcontent.length frcontent) (WE W) (tCons (tVar 0) tNil)) (gName 1))
    (tSeq (tIfS (tTest (tOp (rI0 fun i j => .bl (decide (i < j))) (tOp (rIxA K) (tOp (rIxA K) (tVar 0) (tUn (rU fun i => .int (-i)) (tC (.int 1)))) (tC (.int 1))) (tC (.int 0)))) (tAsg (tUn (rU fun i => .int (-i)) (tVar 1)) (gName 1)) tNext)
    (tRet (tCB (rTupC K) (tCons (tLc (iSeq K (tVar 0)) (gSeqA K 2 (gCons (gName 2) (gCons (gName 3) gNil))) tYes (tTup (tCons (tOp (rI0 fun i j => .int (i - j)) (tVar 2) (tOp (rIxA K) (tOp (rIxA K) (tVar 0) (tC (.int 0))) (tC (.int 0)))) (tCons (tOp rDivA (tVar 3) (tVar 1)) tNil))) [2, 3]) tNil))))))
theorem calnormal {P : Program} {w : World} {K : PySem.W.Frag} {mg : Str → Option Value} {base : Heap} (A : FunAt K mg "normal" snormal Pnormal) (B : Bt K mg) (ccontent : Cal P w K mg base 1 "content" Pcontent frcontent)
    (pr : ∀ W ds r, frnormal ds r → FnEnd K W (tnormal K W) (entry Nnormal ds) r) : Cal P w K mg base 2 "normal" Pnormal frnormal := by
  have sc := scnormal
  refine cal_of A sc _ fun f cdv A outer s H E hr => ⟨tnormal K (wD E), ?_, fun ds r h _ => pr _ ds r h⟩
  have tk : L2N.Takes (cxD P w K mg base Nnormal "normal" snormal f cdv A outer s H E) (wD E) := L2N.takes_of rfl rfl rfl rfl
  have hp : PassesOwn (model P w) (cxD P w K mg base Nnormal "normal" snormal f cdv A outer s H E).A (cxD P w K mg base Nnormal "normal" snormal f cdv A outer s H E).env (cxD P w K mg base Nnormal "normal" snormal f cdv A outer s H E).xe := passes_of rfl
  exact (pss_cons (ps_if (pt_not (pt_truth2 (pv 0))) (pss_one (ps_ret (pe_tup pa_nil))) pss_nil)
    (pss_cons (ps_set (i := 1) sc.nd rfl (Or.inr rfl) (pe_callD ccontent (hr.mono (by decide)) (by rfl) tk (pa_cons (pv 0) pa_nil)))
    (pss_cons (ps_if (pt_cmpR op_lt (pe_ix ix_any (pe_ix ix_any (pv 0) (pe_un un_neg pe_int) (fun _ _ => rfl)) pe_int (fun _ _ => rfl)) pe_int (nomark _)) (pss_one (ps_set (i := 1) sc.nd rfl (Or.inr rfl) (pe_un un_neg (pv 1)))) pss_nil)
    (pss_one (ps_ret (pe_callTy call_tuple_of (by rfl) B.b_tuple (by decide +kernel) (pa_cons (pe_lc (own := [("shift", 2), ("coefficient", 3)]) (tt := tYes) rfl sc.nd (pi_seq (pv 0)) (blkOk_by (N := Nnormal) (sc := defScope snormal) (by decide +kernel)) (fun _ _ _ _ _ => (pg_seqA rfl (pgs_cons (pg_name (i := 2) sc.nd rfl (Or.inl rfl)) (pgs_cons (pg_name (i := 3) sc.nd rfl (Or.inl rfl)) pgs_nil)))) (fun _ _ _ _ _ => pts_nil) (fun _ _ _ _ _ => (pe_tup (pa_cons (pe_op op_sub (pv 2) (pe_ix ix_any (pe_ix ix_any (pv 0) pe_int (fun _ _ => rfl)) pe_int (fun _ _ => rfl))) (pa_cons (pe_op opA_div (pv 3) (pv 1)) pa_nil))))) pa_nil)))))))
def tpolynomial (K : PySem.W.Frag) (W : WX) : TS :=
  (tRet (tCallS (SpF K Pcleaned.length frcleaned) (WE W) (tCons (tVar 0) tNil)))
theorem calpolynomial {P : Program} {w : World} {K : PySem.W.Frag} {mg : Str → Option Value} {base : Heap} (A : FunAt K mg "polynomial" spolynomial Ppolynomial) (B : Bt K mg) (ccleaned : Cal P w K mg base 1 "cleaned" Pcleaned frcleaned)
    (pr : ∀ W ds r, frpolynomial ds r → FnEnd K W (tpolynomial K W) (entry Npolynomial ds) r) : Cal P w K mg base 2 "polynomial" Ppolynomial frpolynomial := by
  have sc := scpolynomial
  refine cal_of A sc _ fun f cdv A outer s H E hr => ⟨tpolynomial K (wD E), ?_, fun ds r h _ => pr _ ds r h⟩
  have tk : L2N.Takes (cxD P w K mg base Npolynomial "polynomial" spolynomial f cdv A outer s H E) (wD E) := L2N.takes_of rfl rfl rfl rfl
  have hp : PassesOwn (model P w) (cxD P w K mg base Npolynomial "polynomial" spolynomial f cdv A outer s H E).A (cxD P w K mg base Npolynomial "polynomial" spolynomial f cdv A outer s H E).env (cxD P w K mg base Npolynomial "polynomial" spolynomial f cdv A outer s H E).xe := passes_of rfl
  exact (pss_one (ps_ret (pe_callD ccleaned (hr.mono (by decide)) (by rfl) tk (pa_cons (pv 0) pa_nil))))
def tnormal_polynomial (K : PySem.W.Frag) (W : WX) : TS :=
  (tRet (tCallS (SpF K Pnormal.length frnormal) (WE W) (tCons (tCallS (SpF K Pcleaned.length frcleaned) (WE W) (tCons (tVar 0) tNil)) tNil)))
theorem calnormal_polynomial {P : Program} {w : World} {K : PySem.W.Frag} {mg : Str → Option Value} {base : Heap} (A : FunAt K mg "normal_polynomial" snormal_polynomial Pnormal_polynomial) (B : Bt K mg) (cnormal : Cal P w K mg base 2 "normal" Pnormal frnormal) (ccleaned : Cal P w K mg base 1 "cleaned" Pcleaned frcleaned)
    (pr : ∀ W ds r, frnormal_polynomial ds r → FnEnd K W (tnormal_polynomial K W) (entry Nnormal_polynomial ds) r) : Cal P w K mg base 3 "normal_polynomial" Pnormal_polynomial frnormal_polynomial := by
  have sc := scnormal_polynomial
  refine cal_of A sc _ fun f cdv A outer s H E hr => ⟨tnormal_polynomial K (wD E), ?_, fun ds r h _ => pr _ ds r h⟩
  have tk : L2N.Takes (cxD P w K mg base Nnormal_polynomial "normal_polynomial" snormal_polynomial f cdv A outer s H E) (wD E) := L2N.takes_of rfl rfl rfl rfl
  have hp : PassesOwn (model P w) (cxD P w K mg base Nnormal_polynomial "normal_polynomial" snormal_polynomial f cdv A outer s H E).A (cxD P w K mg base Nnormal_polynomial "normal_polynomial" snormal_polynomial f cdv A outer s H E).env (cxD P w K mg base Nnormal_polynomial "normal_polynomial" snormal_polynomial f cdv A outer s H E).xe := passes_of rfl
  exact (pss_one (ps_ret (pe_callD cnormal (hr.mono (by decide)) (by rfl) tk (pa_cons (pe_callD ccleaned (hr.mono (by decide)) (by rfl) tk (pa_cons (pv 0) pa_nil)) pa_nil))))
def tspan (K : PySem.W.Frag) (W : WX) : TS :=
  (tSeq (tAsg (tCallS (SpF K Pcleaned.length frcleaned) (WE W) (tCons (tVar 0) tNil)) (gName 1))
    (tSeq (tIfS (tNot (tTru K (tVar 1))) (tRaise (He.ga K "ZeroPolynomial") W) tNext)
    (tRet (tCallS (SpF K Pspread.length frspread) (WE W) (tCons (tVar 1) tNil)))))
theorem calspan {P : Program} {w : World} {K : PySem.W.Frag} {mg : Str → Option Value} {base : Heap} (A : FunAt K mg "span" sspan Pspan) (B : Bt K mg) (ccleaned : Cal P w K mg base 1 "cleaned" Pcleaned frcleaned) (cspread : Cal P w K mg base 1 "spread" Pspread frspread)
    (pr : ∀ W ds r, (frspan K) ds r → FnEnd K W (tspan K W) (entry Nspan ds) r) : Cal P w K mg base 2 "span" Pspan (frspan K) := by
  have sc := scspan
  refine cal_of A sc _ fun f cdv A outer s H E hr => ⟨tspan K (wD E), ?_, fun ds r h _ => pr _ ds r h⟩
  have tk : L2N.Takes (cxD P w K mg base Nspan "span" sspan f cdv A outer s H E) (wD E) := L2N.takes_of rfl rfl rfl rfl
  have hp : PassesOwn (model P w) (cxD P w K mg base Nspan "span" sspan f cdv A outer s H E).A (cxD P w K mg base Nspan "span" sspan f cdv A outer s H E).env (cxD P w K mg base Nspan "span" sspan f cdv A outer s H E).xe := passes_of rfl
  exact (pss_cons (ps_set (i := 1) sc.nd rfl (Or.inl rfl) (pe_callD ccleaned (hr.mono (by decide)) (by rfl) tk (pa_cons (pv 0) pa_nil)))
    (pss_cons (ps_if (pt_not (pt_truth2 (pv 1))) (pss_one (ps_raiseD rfl tk B.e_ZeroPolynomial B.g_ZeroPolynomial (by rfl))) pss_nil)
    (pss_one (ps_ret (pe_callD cspread (hr.mono (by decide)) (by rfl) tk (pa_cons (pv 1) pa_nil))))))
def tpoly_plus (K : PySem.W.Frag) (W : WX) : TS :=
  (tRet (tCallS (SpF K Pcleaned.length frcleaned) (WE W) (tCons (tLst (StX.tStar K (tVar 0) (StX.tStar K (tVar 1) tNil))) tNil)))
theorem calpoly_plus {P : Program} {w : World} {K : PySem.W.Frag} {mg : Str → Option Value} {base : Heap} (A : FunAt K mg "poly_plus" spoly_plus Ppoly_plus) (B : Bt K mg) (ccleaned : Cal P w K mg base 1 "cleaned" Pcleaned frcleaned)
    (pr : ∀ W ds r, frpoly_plus ds r → FnEnd K W (tpoly_plus K W) (entry Npoly_plus ds) r) : Cal P w K mg base 2 "poly_plus" Ppoly_plus frpoly_plus := by
  have sc := scpoly_plus
  refine cal_of A sc _ fun f cdv A outer s H E hr => ⟨tpoly_plus K (wD E), ?_, fun ds r h _ => pr _ ds r h⟩
  have tk : L2N.Takes (cxD P w K mg base Npoly_plus "poly_plus" spoly_plus f cdv A outer s H E) (wD E) := L2N.takes_of rfl rfl rfl rfl
  have hp : PassesOwn (model P w) (cxD P w K mg base Npoly_plus "poly_plus" spoly_plus f cdv A outer s H E).A (cxD P w K mg base Npoly_plus "poly_plus" spoly_plus f cdv A outer s H E).env (cxD P w K mg base Npoly_plus "poly_plus" spoly_plus f cdv A outer s H E).xe := passes_of rfl
  exact (pss_one (ps_ret (pe_callD ccleaned (hr.mono (by decide)) (by rfl) tk (pa_cons (pe_lst (StX.pa_star (pv 0) (StX.pa_star (pv 1) pa_nil))) pa_nil))))
def tpoly_times (K : PySem.W.Frag) (W : WX) : TS :=
  (tRet (tCallS (SpF K Pproduct_of.length frproduct_of) (WE W) (tCons (tVar 0) (tCons (tVar 1) tNil))))
theorem calpoly_times {P : Program} {w : World} {K : PySem.W.Frag} {mg : Str → Option Value} {base : Heap} (A : FunAt K mg "poly_times" spoly_times Ppoly_times) (B : Bt K mg) (cproduct_of : Cal P w K mg base 2 "product_of" Pproduct_of frproduct_of)
    (pr : ∀ W ds r, frpoly_times ds r → FnEnd K W (tpoly_times K W) (entry Npoly_times ds) r) : Cal P w K mg base 3 "poly_times" Ppoly_times frpoly_times := by
  have sc := scpoly_times
  refine cal_of A sc _ fun f cdv A outer s H E hr => ⟨tpoly_times K (wD E), ?_, fun ds r h _ => pr _ ds r h⟩
  have tk : L2N.Takes (cxD P w K mg base Npoly_times "poly_times" spoly_times f cdv A outer s H E) (wD E) := L2N.takes_of rfl rfl rfl rfl
  have hp : PassesOwn (model P w) (cxD P w K mg base Npoly_times "poly_times" spoly_times f cdv A outer s H E).A (cxD P w K mg base Npoly_times "poly_times" spoly_times f cdv A outer s H E).env (cxD P w K mg base Npoly_times "poly_times" spoly_times f cdv A outer s H E).xe := passes_of rfl
  exact (pss_one (ps_ret (pe_callD cproduct_of (hr.mono (by decide)) (by rfl) tk (pa_cons (pv 0) (pa_cons (pv 1) pa_nil)))))
def t_law_whole (K : PySem.W.Frag) (W : WX) : TS :=
  (tRet (tAndV (tCB (rIsi K) (tCons (tVar 0) (tCons (tC (.ty "int")) tNil))) (tNotV (tCB (rIsi K) (tCons (tVar 0) (tCons (tC (.ty "bool")) tNil))))))
theorem cal_law_whole {P : Program} {w : World} {K : PySem.W.Frag} {mg : Str → Option Value} {base : Heap} (A : FunAt K mg "_law_whole" s_law_whole P_law_whole) (B : Bt K mg)
    (pr : ∀ W ds r, fr_law_whole ds r → FnEnd K W (t_law_whole K W) (entry N_law_whole ds) r) : Cal P w K mg base 1 "_law_whole" P_law_whole fr_law_whole := by
  have sc := sc_law_whole
  refine cal_of A sc _ fun f cdv A outer s H E hr => ⟨t_law_whole K (wD E), ?_, fun ds r h _ => pr _ ds r h⟩
  have tk : L2N.Takes (cxD P w K mg base N_law_whole "_law_whole" s_law_whole f cdv A outer s H E) (wD E) := L2N.takes_of rfl rfl rfl rfl
  have hp : PassesOwn (model P w) (cxD P w K mg base N_law_whole "_law_whole" s_law_whole f cdv A outer s H E).A (cxD P w K mg base N_law_whole "_law_whole" s_law_whole f cdv A outer s H E).env (cxD P w K mg base N_law_whole "_law_whole" s_law_whole f cdv A outer s H E).xe := passes_of rfl
  exact (pss_one (ps_ret (pe_and (pe_callB call_isi (by rfl) B.b_isinstance (by decide +kernel) (pa_cons (pv 0) (pa_cons (pe_bltn (v := .ty "int") (by rfl) B.b_int (by decide +kernel) rfl) pa_nil))) (pe_one (pe_not (pe_callB call_isi (by rfl) B.b_isinstance (by decide +kernel) (pa_cons (pv 0) (pa_cons (pe_bltn (v := .ty "bool") (by rfl) B.b_bool (by decide +kernel) rfl) pa_nil))))))))
def t_law_cell (K : PySem.W.Frag) (W : WX) : TS :=
  (tSeq (tIfS (tTest (tOp (rI0 fun i j => .bl (decide (i < j))) (tVar 1) (tCB (rLenA K) (tCons (tVar 0) tNil)))) (tRet (tOp (rIxA K) (tVar 0) (tVar 1))) tNext)
    (tSeq (tAsg (tC (.int 17)) (gName 2))
    (tSeq (tFor (iSeq K (tVar 0)) (gName 3) (tAsg (tOp (rI (fun _ j => 0 < j) fun i j => .int (i % j)) (tCB rIntC (tCons (tOp (rAddA K) (tOp rMulA (tVar 2) (tC (.int 31))) (tOp (rI (fun _ j => 0 < j) fun i j => .int (i % j)) (tCB rIntC (tCons (tVar 3) tNil)) (tC (.int 1000003)))) tNil)) (tC (.int 1000003))) (gName 2)))
    (tRet (tOp (rI (fun _ j => 0 < j) fun i j => .int (i % j)) (tCB rIntC (tCons (tOp rMulA (tOp rMulA (tOp (rAddA K) (tVar 2) (tC (.int 7))) (tOp (rAddA K) (tVar 1) (tC (.int 3)))) (tC (.int 69621))) tNil)) (tC (.int 2147483647)))))))
theorem cal_law_cell {P : Program} {w : World} {K : PySem.W.Frag} {mg : Str → Option Value} {base : Heap} (A : FunAt K mg "_law_cell" s_law_cell P_law_cell) (B : Bt K mg)
    (pr : ∀ W ds r, fr_law_cell ds r → FnEnd K W (t_law_cell K W) (entry N_law_cell ds) r) : Cal P w K mg base 1 "_law_cell" P_law_cell fr_law_cell := by
  have sc := sc_law_cell
  refine cal_of A sc _ fun f cdv A outer s H E hr => ⟨t_law_cell K (wD E), ?_, fun ds r h _ => pr _ ds r h⟩
  have tk : L2N.Takes (cxD P w K mg base N_law_cell "_law_cell" s_law_cell f cdv A outer s H E) (wD E) := L2N.takes_of rfl rfl rfl rfl
  have hp : PassesOwn (model P w) (cxD P w K mg base N_law_cell "_law_cell" s_law_cell f cdv A outer s H E).A (cxD P w K mg base N_law_cell "_law_cell" s_law_cell f cdv A outer s H E).env (cxD P w K mg base N_law_cell "_law_cell" s_law_cell f cdv A outer s H E).xe := passes_of rfl
  exact (pss_cons (ps_if (pt_cmpR op_lt (pv 1) (pe_callB cr_lenA (by rfl) B.b_len (by decide +kernel) (pa_cons (pv 0) pa_nil)) (nomark _)) (pss_one (ps_ret (pe_ix ix_any (pv 0) (pv 1) (fun _ _ => rfl)))) pss_nil)
    (pss_cons (ps_set (i := 2) sc.nd rfl (Or.inl rfl) pe_int)
    (pss_cons (ps_for hp rfl (pi_seq (pv 0)) (pg_name (i := 3) sc.nd rfl (Or.inl rfl)) (pss_one (ps_set (i := 2) sc.nd rfl (Or.inl rfl) (pe_op op_mod (pe_callTy cr_int (by rfl) B.b_int (by decide +kernel) (pa_cons (pe_op opA_add (pe_op opA_mul (pv 2) pe_int) (pe_op op_mod (pe_callTy cr_int (by rfl) B.b_int (by decide +kernel) (pa_cons (pv 3) pa_nil)) pe_int)) pa_nil)) pe_int))))
    (pss_one (ps_ret (pe_op op_mod (pe_callTy cr_int (by rfl) B.b_int (by decide +kernel) (pa_cons (pe_op opA_mul (pe_op opA_mul (pe_op opA_add (pv 2) pe_int) (pe_op opA_add (pv 1) pe_int)) pe_int) pa_nil)) pe_int))))))
def t_law_digits (K : PySem.W.Frag) (W : WX) : TS :=
  (tSeq (tAsg (tLst tNil) (gName 2))
    (tSeq (tAsg (tCB rIntC (tCons (tVar 0) tNil)) (gName 3))
    (tSeq (tIfS (tTest (tOp (rI0 fun i j => .bl (decide (j ≤ i))) (tVar 3) (tOp (rI CPow fun i j => .int (i ^ j.toNat)) (tC (.int 10)) (tC (.int 18))))) (tSeq (tAsg (tOp (rI0 fun i j => .int (i - j)) (tVar 3) (tOp (rI CPow fun i j => .int (i ^ j.toNat)) (tC (.int 10)) (tC (.int 18)))) (gName 3))
    (tSeq (tFor (iSeq K (tVar 1)) (gName 4) (tSeq (tDrop (tBM K "list" rAppend (tVar 2) (tCons (tOp (rI (fun _ j => 0 < j) fun i j => .int (i % j)) (tCB rIntC (tCons (tVar 3) tNil)) (tVar 4)) tNil)))
    (tAsg (tOp rDivA (tCB rIntC (tCons (tVar 3) tNil)) (tVar 4)) (gName 3))))
    (tRet (tVar 2)))) tNext)
    (tSeq (tAsg (tOp (rI (fun _ j => 0 < j) fun i j => .int (i % j)) (tCB rIntC (tCons (tVar 3) tNil)) (tC (.int 2147483629))) (gName 5))
    (tSeq (tFor (iRng1 (tCons (tCB (rLenA K) (tCons (tVar 1) tNil)) tNil)) (gName 6) (tSeq (tAsg (tOp (rI (fun _ j => 0 < j) fun i j => .int (i % j)) (tCB rIntC (tCons (tOp (rAddA K) (tOp (rAddA K) (tOp rMulA (tVar 5) (tC (.int 48271))) (tOp rMulA (tC (.int 974711)) (tVar 6))) (tC (.int 12345))) tNil)) (tC (.int 2147483647))) (gName 5))
    (tSeq (tAsg (tOp (rI (fun _ j => 0 < j) fun i j => .int (i % j)) (tCB rIntC (tCons (tOp rMulA (tVar 5) (tOp (rAddA K) (tOp rDivA (tVar 5) (tC (.int 65537))) (tC (.int 3)))) tNil)) (tC (.int 2147483629))) (gName 7))
    (tDrop (tBM K "list" rAppend (tVar 2) (tCons (tOp (rI (fun _ j => 0 < j) fun i j => .int (i % j)) (tOp rDivA (tVar 7) (tC (.int 19))) (tOp (rIxA K) (tVar 1) (tVar 6))) tNil))))))
    (tRet (tVar 2)))))))
theorem cal_law_digits {P : Program} {w : World} {K : PySem.W.Frag} {mg : Str → Option Value} {base : Heap} (A : FunAt K mg "_law_digits" s_law_digits P_law_digits) (B : Bt K mg)
    (pr : ∀ W ds r, fr_law_digits ds r → FnEnd K W (t_law_digits K W) (entry N_law_digits ds) r) : Cal P w K mg base 1 "_law_digits" P_law_digits fr_law_digits := by
  have sc := sc_law_digits
  refine cal_of A sc _ fun f cdv A outer s H E hr => ⟨t_law_digits K (wD E), ?_, fun ds r h _ => pr _ ds r h⟩
  have tk : L2N.Takes (cxD P w K mg base N_law_digits "_law_digits" s_law_digits f cdv A outer s H E) (wD E) := L2N.takes_of rfl rfl rfl rfl
  have hp : PassesOwn (model P w) (cxD P w K mg base N_law_digits "_law_digits" s_law_digits f cdv A outer s H E).A (cxD P w K mg base N_law_digits "_law_digits" s_law_digits f cdv A outer s H E).env (cxD P w K mg base N_law_digits "_law_digits" s_law_digits f cdv A outer s H E).xe := passes_of rfl
  exact (pss_cons (ps_set (i := 2) sc.nd rfl (Or.inl rfl) (pe_lst pa_nil))
    (pss_cons (ps_set (i := 3) sc.nd rfl (Or.inl rfl) (pe_callTy cr_int (by rfl) B.b_int (by decide +kernel) (pa_cons (pv 0) pa_nil)))
    (pss_cons (ps_if (pt_cmpR op_ge (pv 3) (pe_op op_pow pe_int pe_int) (nomark _)) (pss_cons (ps_set (i := 3) sc.nd rfl (Or.inl rfl) (pe_op op_sub (pv 3) (pe_op op_pow pe_int pe_int)))
    (pss_cons (ps_for hp rfl (pi_seq (pv 1)) (pg_name (i := 4) sc.nd rfl (Or.inl rfl)) (pss_cons (ps_expr (pe_bm PySem.F.plainAttrs_list PySem.F.slot_list_append PySem.F.type_list_append mt_append (pv 2) (pa_cons (pe_op op_mod (pe_callTy cr_int (by rfl) B.b_int (by decide +kernel) (pa_cons (pv 3) pa_nil)) (pv 4)) pa_nil)))
    (pss_one (ps_set (i := 3) sc.nd rfl (Or.inl rfl) (pe_op opA_div (pe_callTy cr_int (by rfl) B.b_int (by decide +kernel) (pa_cons (pv 3) pa_nil)) (pv 4))))))
    (pss_one (ps_ret (pv 2))))) pss_nil)
    (pss_cons (ps_set (i := 5) sc.nd rfl (Or.inl rfl) (pe_op op_mod (pe_callTy cr_int (by rfl) B.b_int (by decide +kernel) (pa_cons (pv 3) pa_nil)) pe_int))
    (pss_cons (ps_for hp rfl (pi_range1 (by rfl) B.b_range (pa_cons (pe_callB cr_lenA (by rfl) B.b_len (by decide +kernel) (pa_cons (pv 1) pa_nil)) pa_nil)) (pg_name (i := 6) sc.nd rfl (Or.inl rfl)) (pss_cons (ps_set (i := 5) sc.nd rfl (Or.inl rfl) (pe_op op_mod (pe_callTy cr_int (by rfl) B.b_int (by decide +kernel) (pa_cons (pe_op opA_add (pe_op opA_add (pe_op opA_mul (pv 5) pe_int) (pe_op opA_mul pe_int (pv 6))) pe_int) pa_nil)) pe_int))
    (pss_cons (ps_set (i := 7) sc.nd rfl (Or.inl rfl) (pe_op op_mod (pe_callTy cr_int (by rfl) B.b_int (by decide +kernel) (pa_cons (pe_op opA_mul (pv 5) (pe_op opA_add (pe_op opA_div (pv 5) pe_int) pe_int)) pa_nil)) pe_int))
    (pss_one (ps_expr (pe_bm PySem.F.plainAttrs_list PySem.F.slot_list_append PySem.F.type_list_append mt_append (pv 2) (pa_cons (pe_op op_mod (pe_op opA_div (pv 7) pe_int) (pe_ix ix_any (pv 1) (pv 6) (fun _ _ => rfl))) pa_nil)))))))
    (pss_one (ps_ret (pv 2))))))))
def t_law_gcd (K : PySem.W.Frag) (W : WX) : TS :=
  (tSeq (tAsg (tCB rAbsC (tCons (tVar 0) tNil)) (gName 2))
    (tSeq (tAsg (tCB rAbsC (tCons (tVar 1) tNil)) (gName 3))
    (tSeq (tFor (iRng1 (tCons (tOp (rAddA K) (tOp rMulA (tC (.int 2)) (tBits (tVar 3))) (tC (.int 2))) tNil)) (gName 4) (tSeq (tIfS (tTest (tOp (rEqD K) (tVar 3) (tC (.int 0)))) (tRet (tVar 2)) tNext)
    (tSeq (tAsg (tOp (rI (fun _ j => 0 < j) fun i j => .int (i % j)) (tCB rIntC (tCons (tVar 2) tNil)) (tVar 3)) (gName 5))
    (tSeq (tAsg (tVar 3) (gName 2))
    (tAsg (tVar 5) (gName 3))))))
    (tRet (tVar 2)))))
theorem cal_law_gcd {P : Program} {w : World} {K : PySem.W.Frag} {mg : Str → Option Value} {base : Heap} (A : FunAt K mg "_law_gcd" s_law_gcd P_law_gcd) (B : Bt K mg)
    (pr : ∀ W ds r, fr_law_gcd ds r → FnEnd K W (t_law_gcd K W) (entry N_law_gcd ds) r) : Cal P w K mg base 1 "_law_gcd" P_law_gcd fr_law_gcd := by
  have sc := sc_law_gcd
  refine cal_of A sc _ fun f cdv A outer s H E hr => ⟨t_law_gcd K (wD E), ?_, fun ds r h _ => pr _ ds r h⟩
  have tk : L2N.Takes (cxD P w K mg base N_law_gcd "_law_gcd" s_law_gcd f cdv A outer s H E) (wD E) := L2N.takes_of rfl rfl rfl rfl
  have hp : PassesOwn (model P w) (cxD P w K mg base N_law_gcd "_law_gcd" s_law_gcd f cdv A outer s H E).A (cxD P w K mg base N_law_gcd "_law_gcd" s_law_gcd f cdv A outer s H E).env (cxD P w K mg base N_law_gcd "_law_gcd" s_law_gcd f cdv A outer s H E).xe := passes_of rfl
  exact (pss_cons (ps_set (i := 2) sc.nd rfl (Or.inl rfl) (pe_callB cr_abs (by rfl) B.b_abs (by decide +kernel) (pa_cons (pv 0) pa_nil)))
    (pss_cons (ps_set (i := 3) sc.nd rfl (Or.inl rfl) (pe_callB cr_abs (by rfl) B.b_abs (by decide +kernel) (pa_cons (pv 1) pa_nil)))
    (pss_cons (ps_for hp rfl (pi_range1 (by rfl) B.b_range (pa_cons (pe_op opA_add (pe_op opA_mul pe_int (pe_bits (pv 3))) pe_int) pa_nil)) (pg_name (i := 4) sc.nd rfl (Or.inl rfl)) (pss_cons (ps_if (pt_cmpR (op_eqD hr.units) (pv 3) pe_int (nomark _)) (pss_one (ps_ret (pv 2))) pss_nil)
    (pss_cons (ps_set (i := 5) sc.nd rfl (Or.inl rfl) (pe_op op_mod (pe_callTy cr_int (by rfl) B.b_int (by decide +kernel) (pa_cons (pv 2) pa_nil)) (pv 3)))
    (pss_cons (ps_set (i := 2) sc.nd rfl (Or.inl rfl) (pv 3))
    (pss_one (ps_set (i := 3) sc.nd rfl (Or.inl rfl) (pv 5)))))))
    (pss_one (ps_ret (pv 2))))))
def t_law_poly (K : PySem.W.Frag) (W : WX) : TS :=
  (tSeq (tAsg tDNewK (gName 1))
    (tSeq (tFor (iSeq K (tVar 0)) (gName 2) (sDPut (tVar 1) (tOp (rIxA K) (tVar 2) (tC (.int 0))) (tOp (rAddA K) (tDGet2 (tVar 1) (tOp (rIxA K) (tVar 2) (tC (.int 0))) (tC (.int 0))) (tOp (rIxA K) (tVar 2) (tC (.int 1))))))
    (tSeq (tAsg tDNewK (gName 3))
    (tSeq (tFor (iSeq K (tCB (rSortA K) (tCons (tCB (rLstA K) (tCons (tVar 1) tNil)) tNil))) (gName 4) (tIfS (tTest (tOp (rNeD K) (tDGet (tVar 1) (tVar 4)) (tC (.int 0)))) (sDPut (tVar 3) (tVar 4) (tDGet (tVar 1) (tVar 4))) tNext))
    (tRet (tVar 3))))))
theorem cal_law_poly {P : Program} {w : World} {K : PySem.W.Frag} {mg : Str → Option Value} {base : Heap} (A : FunAt K mg "_law_poly" s_law_poly P_law_poly) (B : Bt K mg)
    (pr : ∀ W ds r, fr_law_poly ds r → FnEnd K W (t_law_poly K W) (entry N_law_poly ds) r) : Cal P w K mg base 1 "_law_poly" P_law_poly fr_law_poly := by
  have sc := sc_law_poly
  refine cal_of A sc _ fun f cdv A outer s H E hr => ⟨t_law_poly K (wD E), ?_, fun ds r h _ => pr _ ds r h⟩
  have tk : L2N.Takes (cxD P w K mg base N_law_poly "_law_poly" s_law_poly f cdv A outer s H E) (wD E) := L2N.takes_of rfl rfl rfl rfl
  have hp : PassesOwn (model P w) (cxD P w K mg base N_law_poly "_law_poly" s_law_poly f cdv A outer s H E).A (cxD P w K mg base N_law_poly "_law_poly" s_law_poly f cdv A outer s H E).env (cxD P w K mg base N_law_poly "_law_poly" s_law_poly f cdv A outer s H E).xe := passes_of rfl
  exact (pss_cons (ps_set (i := 1) sc.nd rfl (Or.inl rfl) pe_dnewK)
    (pss_cons (ps_for hp rfl (pi_seq (pv 0)) (pg_name (i := 2) sc.nd rfl (Or.inl rfl)) (pss_one (ps_dput (hu_of hr) (pv 1) (pe_ix ix_any (pv 2) pe_int (fun _ _ => rfl)) (pe_op opA_add (pe_dget2 (hu_of hr) (pv 1) (pe_ix ix_any (pv 2) pe_int (fun _ _ => rfl)) pe_int ⟨rfl, rfl, rfl, rfl⟩) (pe_ix ix_any (pv 2) pe_int (fun _ _ => rfl))) rfl)))
    (pss_cons (ps_set (i := 3) sc.nd rfl (Or.inl rfl) pe_dnewK)
    (pss_cons (ps_for hp rfl (pi_seq (pe_callB (cr_sortL hr.units) (by rfl) B.b_sorted (by decide +kernel) (pa_cons (pe_callTy (cr_lstA rfl) (by rfl) B.b_list (by decide +kernel) (pa_cons (pv 1) pa_nil)) pa_nil))) (pg_name (i := 4) sc.nd rfl (Or.inl rfl)) (pss_one (ps_if (pt_cmpR (op_neD hr.units) (pe_dget (hu_of hr) (pv 1) (pv 4) (fun _ _ => rfl)) pe_int (nomark _)) (pss_one (ps_dput (hu_of hr) (pv 3) (pv 4) (pe_dget (hu_of hr) (pv 1) (pv 4) (fun _ _ => rfl)) rfl)) pss_nil)))
    (pss_one (ps_ret (pv 3)))))))
def t_law_add (K : PySem.W.Frag) (W : WX) : TS :=
  (tRet (tCallS (SpF K P_law_poly.length fr_law_poly) (WE W) (tCons (tOp (rAddA K) (tItemsR (tVar 0)) (tLockEA (tLc (iSeq K (tVar 1)) (gName 3) tYes (tTup (tCons (tVar 3) (tCons (tOp rMulA (tVar 2) (tDGet (tVar 1) (tVar 3))) tNil))) [3]))) tNil)))
theorem cal_law_add {P : Program} {w : World} {K : PySem.W.Frag} {mg : Str → Option Value} {base : Heap} (A : FunAt K mg "_law_add" s_law_add P_law_add) (B : Bt K mg) (c_law_poly : Cal P w K mg base 1 "_law_poly" P_law_poly fr_law_poly)
    (pr : ∀ W ds r, fr_law_add ds r → FnEnd K W (t_law_add K W) (entry N_law_add ds) r) : Cal P w K mg base 2 "_law_add" P_law_add fr_law_add := by
  have sc := sc_law_add
  refine cal_of A sc _ fun f cdv A outer s H E hr => ⟨t_law_add K (wD E), ?_, fun ds r h _ => pr _ ds r h⟩
  have tk : L2N.Takes (cxD P w K mg base N_law_add "_law_add" s_law_add f cdv A outer s H E) (wD E) := L2N.takes_of rfl rfl rfl rfl
  have hp : PassesOwn (model P w) (cxD P w K mg base N_law_add "_law_add" s_law_add f cdv A outer s H E).A (cxD P w K mg base N_law_add "_law_add" s_law_add f cdv A outer s H E).env (cxD P w K mg base N_law_add "_law_add" s_law_add f cdv A outer s H E).xe := passes_of rfl
  exact (pss_one (ps_ret (pe_callD c_law_poly (hr.mono (by decide)) (by rfl) tk (pa_cons (pe_op opA_add (pe_itemsR rfl (pv 0) (by rfl) B.b_list (by decide +kernel)) (pe_lockA (pe_lc (own := [("shift", 3)]) (tt := tYes) rfl sc.nd (pi_seq (pv 1)) (blkOk_by (N := N_law_add) (sc := defScope s_law_add) (by decide +kernel)) (fun _ _ _ _ _ => (pg_name (i := 3) sc.nd rfl (Or.inl rfl))) (fun _ _ _ _ _ => pts_nil) (fun _ _ _ _ _ => (pe_tup (pa_cons (pv 3) (pa_cons (pe_op opA_mul (pv 2) (pe_dget (hu_of hr) (pv 1) (pv 3) (fun _ _ => rfl))) pa_nil))))))) pa_nil))))
def t_law_mul (K : PySem.W.Frag) (W : WX) : TS :=
  (tSeq (tAsg tDNewK (gName 2))
    (tSeq (tLockA (tFor (iSeq K (tVar 0)) (gName 3) (tLockA (tFor (iSeq K (tVar 1)) (gName 4) (sDPut (tVar 2) (tOp (rAddA K) (tVar 3) (tVar 4)) (tOp (rAddA K) (tDGet2 (tVar 2) (tOp (rAddA K) (tVar 3) (tVar 4)) (tC (.int 0))) (tOp rMulA (tDGet (tVar 0) (tVar 3)) (tDGet (tVar 1) (tVar 4)))))))))
    (tRet (tCallS (SpF K P_law_poly.length fr_law_poly) (WE W) (tCons (tItemsR (tVar 2)) tNil)))))
theorem cal_law_mul {P : Program} {w : World} {K : PySem.W.Frag} {mg : Str → Option Value} {base : Heap} (A : FunAt K mg "_law_mul" s_law_mul P_law_mul) (B : Bt K mg) (c_law_poly : Cal P w K mg base 1 "_law_poly" P_law_poly fr_law_poly)
    (pr : ∀ W ds r, fr_law_mul ds r → FnEnd K W (t_law_mul K W) (entry N_law_mul ds) r) : Cal P w K mg base 2 "_law_mul" P_law_mul fr_law_mul := by
  have sc := sc_law_mul
  refine cal_of A sc _ fun f cdv A outer s H E hr => ⟨t_law_mul K (wD E), ?_, fun ds r h _ => pr _ ds r h⟩
  have tk : L2N.Takes (cxD P w K mg base N_law_mul "_law_mul" s_law_mul f cdv A outer s H E) (wD E) := L2N.takes_of rfl rfl rfl rfl
  have hp : PassesOwn (model P w) (cxD P w K mg base N_law_mul "_law_mul" s_law_mul f cdv A outer s H E).A (cxD P w K mg base N_law_mul "_law_mul" s_law_mul f cdv A outer s H E).env (cxD P w K mg base N_law_mul "_law_mul" s_law_mul f cdv A outer s H E).xe := passes_of rfl
  exact (pss_cons (ps_set (i := 2) sc.nd rfl (Or.inl rfl) pe_dnewK)
    (pss_cons (ps_lockA (ps_for hp rfl (pi_seq (pv 0)) (pg_name (i := 3) sc.nd rfl (Or.inl rfl)) (pss_one (ps_lockA (ps_for hp rfl (pi_seq (pv 1)) (pg_name (i := 4) sc.nd rfl (Or.inl rfl)) (pss_one (ps_dput (hu_of hr) (pv 2) (pe_op opA_add (pv 3) (pv 4)) (pe_op opA_add (pe_dget2 (hu_of hr) (pv 2) (pe_op opA_add (pv 3) (pv 4)) pe_int ⟨rfl, rfl, rfl, rfl⟩) (pe_op opA_mul (pe_dget (hu_of hr) (pv 0) (pv 3) (fun _ _ => rfl)) (pe_dget (hu_of hr) (pv 1) (pv 4) (fun _ _ => rfl)))) rfl)))))))
    (pss_one (ps_ret (pe_callD c_law_poly (hr.mono (by decide)) (by rfl) tk (pa_cons (pe_itemsR rfl (pv 2) (by rfl) B.b_list (by decide +kernel)) pa_nil))))))
def t_law_pairs (K : PySem.W.Frag) (W : WX) : TS :=
  (tRet (tCB (rTupC K) (tCons (tLc (iSeq K (tCB (rSortA K) (tCons (tCB rListRd (tCons (tVar 0) tNil)) tNil))) (gName 1) tYes (tTup (tCons (tVar 1) (tCons (tDGet (tVar 0) (tVar 1)) tNil))) [1]) tNil)))
theorem cal_law_pairs {P : Program} {w : World} {K : PySem.W.Frag} {mg : Str → Option Value} {base : Heap} (A : FunAt K mg "_law_pairs" s_law_pairs P_law_pairs) (B : Bt K mg)
    (pr : ∀ W ds r, fr_law_pairs ds r → FnEnd K W (t_law_pairs K W) (entry N_law_pairs ds) r) : Cal P w K mg base 1 "_law_pairs" P_law_pairs fr_law_pairs := by
  have sc := sc_law_pairs
  refine cal_of A sc _ fun f cdv A outer s H E hr => ⟨t_law_pairs K (wD E), ?_, fun ds r h _ => pr _ ds r h⟩
  have tk : L2N.Takes (cxD P w K mg base N_law_pairs "_law_pairs" s_law_pairs f cdv A outer s H E) (wD E) := L2N.takes_of rfl rfl rfl rfl
  have hp : PassesOwn (model P w) (cxD P w K mg base N_law_pairs "_law_pairs" s_law_pairs f cdv A outer s H E).A (cxD P w K mg base N_law_pairs "_law_pairs" s_law_pairs f cdv A outer s H E).env (cxD P w K mg base N_law_pairs "_law_pairs" s_law_pairs f cdv A outer s H E).xe := passes_of rfl
  exact (pss_one (ps_ret (pe_callTy call_tuple_of (by rfl) B.b_tuple (by decide +kernel) (pa_cons (pe_lc (own := [("shift", 1)]) (tt := tYes) rfl sc.nd (pi_seq (pe_callB (cr_sortL hr.units) (by rfl) B.b_sorted (by decide +kernel) (pa_cons (pe_callTy (cr_listRd rfl) (by rfl) B.b_list (by decide +kernel) (pa_cons (pv 0) pa_nil)) pa_nil))) (blkOk_by (N := N_law_pairs) (sc := defScope s_law_pairs) (by decide +kernel)) (fun _ _ _ _ _ => (pg_name (i := 1) sc.nd rfl (Or.inl rfl))) (fun _ _ _ _ _ => pts_nil) (fun _ _ _ _ _ => (pe_tup (pa_cons (pv 1) (pa_cons (pe_dget (hu_of hr) (pv 0) (pv 1) (fun _ _ => rfl)) pa_nil))))) pa_nil))))
def t_law_normal (K : PySem.W.Frag) (W : WX) : TS :=
  (tSeq (tIfS (tTest (tOp (rEqD K) (tCB rLenD (tCons (tVar 0) tNil)) (tC (.int 0)))) (tRet tDNewK) tNext)
    (tSeq (tAsg (tCB (rSortA K) (tCons (tCB rListRd (tCons (tVar 0) tNil)) tNil)) (gName 1))
    (tSeq (tAsg (tC (.int 0)) (gName 2))
    (tSeq (tFor (iSeq K (tVar 1)) (gName 3) (tAsg (tCallS (SpF K P_law_gcd.length fr_law_gcd) (WE W) (tCons (tVar 2) (tCons (tDGet (tVar 0) (tVar 3)) tNil))) (gName 2)))
    (tSeq (tIfS (tTest (tOp (rI0 fun i j => .bl (decide (i < j))) (tDGet (tVar 0) (tOp (rIxA K) (tVar 1) (tUn (rU fun i => .int (-i)) (tC (.int 1))))) (tC (.int 0)))) (tAsg (tUn (rU fun i => .int (-i)) (tVar 2)) (gName 2)) tNext)
    (tSeq (tAsg tDNewK (gName 4))
    (tSeq (tFor (iSeq K (tVar 1)) (gName 3) (sDPut (tVar 4) (tOp (rI0 fun i j => .int (i - j)) (tVar 3) (tOp (rIxA K) (tVar 1) (tC (.int 0)))) (tOp rDivA (tDGet (tVar 0) (tVar 3)) (tVar 2))))
    (tRet (tVar 4)))))))))
theorem cal_law_normal {P : Program} {w : World} {K : PySem.W.Frag} {mg : Str → Option Value} {base : Heap} (A : FunAt K mg "_law_normal" s_law_normal P_law_normal) (B : Bt K mg) (c_law_gcd : Cal P w K mg base 1 "_law_gcd" P_law_gcd fr_law_gcd)
    (pr : ∀ W ds r, fr_law_normal ds r → FnEnd K W (t_law_normal K W) (entry N_law_normal ds) r) : Cal P w K mg base 2 "_law_normal" P_law_normal fr_law_normal := by
  have sc := sc_law_normal
  refine cal_of A sc _ fun f cdv A outer s H E hr => ⟨t_law_normal K (wD E), ?_, fun ds r h _ => pr _ ds r h⟩
  have tk : L2N.Takes (cxD P w K mg base N_law_normal "_law_normal" s_law_normal f cdv A outer s H E) (wD E) := L2N.takes_of rfl rfl rfl rfl
  have hp : PassesOwn (model P w) (cxD P w K mg base N_law_normal "_law_normal" s_law_normal f cdv A outer s H E).A (cxD P w K mg base N_law_normal "_law_normal" s_law_normal f cdv A outer s H E).env (cxD P w K mg base N_law_normal "_law_normal" s_law_normal f cdv A outer s H E).xe := passes_of rfl
  exact (pss_cons (ps_if (pt_cmpR (op_eqD hr.units) (pe_callB cr_lenD (by rfl) B.b_len (by decide +kernel) (pa_cons (pv 0) pa_nil)) pe_int (nomark _)) (pss_one (ps_ret pe_dnewK)) pss_nil)
    (pss_cons (ps_set (i := 1) sc.nd rfl (Or.inl rfl) (pe_callB (cr_sortL hr.units) (by rfl) B.b_sorted (by decide +kernel) (pa_cons (pe_callTy (cr_listRd rfl) (by rfl) B.b_list (by decide +kernel) (pa_cons (pv 0) pa_nil)) pa_nil)))
    (pss_cons (ps_set (i := 2) sc.nd rfl (Or.inl rfl) pe_int)
    (pss_cons (ps_for hp rfl (pi_seq (pv 1)) (pg_name (i := 3) sc.nd rfl (Or.inl rfl)) (pss_one (ps_set (i := 2) sc.nd rfl (Or.inl rfl) (pe_callD c_law_gcd (hr.mono (by decide)) (by rfl) tk (pa_cons (pv 2) (pa_cons (pe_dget (hu_of hr) (pv 0) (pv 3) (fun _ _ => rfl)) pa_nil))))))
    (pss_cons (ps_if (pt_cmpR op_lt (pe_dget (hu_of hr) (pv 0) (pe_ix ix_any (pv 1) (pe_un un_neg pe_int) (fun _ _ => rfl)) (fun _ _ => rfl)) pe_int (nomark _)) (pss_one (ps_set (i := 2) sc.nd rfl (Or.inl rfl) (pe_un un_neg (pv 2)))) pss_nil)
    (pss_cons (ps_set (i := 4) sc.nd rfl (Or.inl rfl) pe_dnewK)
    (pss_cons (ps_for hp rfl (pi_seq (pv 1)) (pg_name (i := 3) sc.nd rfl (Or.inl rfl)) (pss_one (ps_dput (hu_of hr) (pv 4) (pe_op op_sub (pv 3) (pe_ix ix_any (pv 1) pe_int (fun _ _ => rfl))) (pe_op opA_div (pe_dget (hu_of hr) (pv 0) (pv 3) (fun _ _ => rfl)) (pv 2)) rfl)))
    (pss_one (ps_ret (pv 4))))))))))
def t_law_is_poly (K : PySem.W.Frag) (W : WX) : TS :=
  (tSeq (tIfS (tNot (tB (tCB (rIsi K) (tCons (tVar 0) (tCons (tC (.ty "tuple")) tNil))))) (tRet (tC (.bl false))) tNext)
    (tSeq (tFor (iSeq K (tVar 0)) (gName 1) (tSeq (tIfS (tOr (tNot (tB (tCB (rIsi K) (tCons (tVar 1) (tCons (tC (.ty "tuple")) tNil))))) (tTest (tOp (rNeD K) (tCB (rLenA K) (tCons (tVar 1) tNil)) (tC (.int 2))))) (tRet (tC (.bl false))) tNext)
    (tIfS (tOr (tNot (tB (tCallS (SpF K P_law_whole.length fr_law_whole) (WE W) (tCons (tOp (rIxA K) (tVar 1) (tC (.int 0))) tNil)))) (tOr (tNot (tB (tCallS (SpF K P_law_whole.length fr_law_whole) (WE W) (tCons (tOp (rIxA K) (tVar 1) (tC (.int 1))) tNil)))) (tTest (tOp (rEqD K) (tOp (rIxA K) (tVar 1) (tC (.int 1))) (tC (.int 0)))))) (tRet (tC (.bl false))) tNext)))
    (tSeq (tFor (iRng2 (tCons (tC (.int 1)) (tCons (tCB (rLenA K) (tCons (tVar 0) tNil)) tNil))) (gName 2) (tIfS (tTest (tOp (rI0 fun i j => .bl (decide (j ≤ i))) (tOp (rIxA K) (tOp (rIxA K) (tVar 0) (tOp (rI0 fun i j => .int (i - j)) (tVar 2) (tC (.int 1)))) (tC (.int 0))) (tOp (rIxA K) (tOp (rIxA K) (tVar 0) (tVar 2)) (tC (.int 0))))) (tRet (tC (.bl false))) tNext))
    (tRet (tC (.bl true))))))
theorem cal_law_is_poly {P : Program} {w : World} {K : PySem.W.Frag} {mg : Str → Option Value} {base : Heap} (A : FunAt K mg "_law_is_poly" s_law_is_poly P_law_is_poly) (B : Bt K mg) (c_law_whole : Cal P w K mg base 1 "_law_whole" P_law_whole fr_law_whole)
    (pr : ∀ W ds r, fr_law_is_poly ds r → FnEnd K W (t_law_is_poly K W) (entry N_law_is_poly ds) r) : Cal P w K mg base 2 "_law_is_poly" P_law_is_poly fr_law_is_poly := by
  have sc := sc_law_is_poly
  refine cal_of A sc _ fun f cdv A outer s H E hr => ⟨t_law_is_poly K (wD E), ?_, fun ds r h _ => pr _ ds r h⟩
  have tk : L2N.Takes (cxD P w K mg base N_law_is_poly "_law_is_poly" s_law_is_poly f cdv A outer s H E) (wD E) := L2N.takes_of rfl rfl rfl rfl
  have hp : PassesOwn (model P w) (cxD P w K mg base N_law_is_poly "_law_is_poly" s_law_is_poly f cdv A outer s H E).A (cxD P w K mg base N_law_is_poly "_law_is_poly" s_law_is_poly f cdv A outer s H E).env (cxD P w K mg base N_law_is_poly "_law_is_poly" s_law_is_poly f cdv A outer s H E).xe := passes_of rfl
  exact (pss_cons (ps_if (pt_not (pt_val (pe_callB call_isi (by rfl) B.b_isinstance (by decide +kernel) (pa_cons (pv 0) (pa_cons (pe_bltn (v := .ty "tuple") (by rfl) B.b_tuple (by decide +kernel) rfl) pa_nil))))) (pss_one (ps_ret pe_bl)) pss_nil)
    (pss_cons (ps_for hp rfl (pi_seq (pv 0)) (pg_name (i := 1) sc.nd rfl (Or.inl rfl)) (pss_cons (ps_if ((pw_or (pt_not (pt_val (pe_callB call_isi (by rfl) B.b_isinstance (by decide +kernel) (pa_cons (pv 1) (pa_cons (pe_bltn (v := .ty "tuple") (by rfl) B.b_tuple (by decide +kernel) rfl) pa_nil))))) (pw_or1 (pt_cmpR (op_neD hr.units) (pe_callB cr_lenA (by rfl) B.b_len (by decide +kernel) (pa_cons (pv 1) pa_nil)) pe_int (nomark _))))).pt (pss_one (ps_ret pe_bl)) pss_nil)
    (pss_one (ps_if ((pw_or (pt_not (pt_val (pe_callD c_law_whole (hr.mono (by decide)) (by rfl) tk (pa_cons (pe_ix ix_any (pv 1) pe_int (fun _ _ => rfl)) pa_nil)))) (pw_or (pt_not (pt_val (pe_callD c_law_whole (hr.mono (by decide)) (by rfl) tk (pa_cons (pe_ix ix_any (pv 1) pe_int (fun _ _ => rfl)) pa_nil)))) (pw_or1 (pt_cmpR (op_eqD hr.units) (pe_ix ix_any (pv 1) pe_int (fun _ _ => rfl)) pe_int (nomark _)))))).pt (pss_one (ps_ret pe_bl)) pss_nil))))
    (pss_cons (ps_for hp rfl (pi_range2 (by rfl) B.b_range (pa_cons pe_int (pa_cons (pe_callB cr_lenA (by rfl) B.b_len (by decide +kernel) (pa_cons (pv 0) pa_nil)) pa_nil))) (pg_name (i := 2) sc.nd rfl (Or.inl rfl)) (pss_one (ps_if (pt_cmpR op_ge (pe_ix ix_any (pe_ix ix_any (pv 0) (pe_op op_sub (pv 2) pe_int) (fun _ _ => rfl)) pe_int (fun _ _ => rfl)) (pe_ix ix_any (pe_ix ix_any (pv 0) (pv 2) (fun _ _ => rfl)) pe_int (fun _ _ => rfl)) (nomark _)) (pss_one (ps_ret pe_bl)) pss_nil)))
    (pss_one (ps_ret pe_bl)))))
def t_law_coefficient (K : PySem.W.Frag) (W : WX) : TS :=
  (tSeq (tIfS (tTest (tOp (rEqD K) (tVar 0) (tC (.int 0)))) (tRet (tC (.int 0))) tNext)
    (tSeq (tIfS (tTest (tOp (rI0 fun i j => .bl (decide (i < j))) (tVar 0) (tC (.int 5)))) (tRet (tOp (rI0 fun i j => .int (i - j)) (tOp (rI (fun _ j => 0 < j) fun i j => .int (i % j)) (tCB rIntC (tCons (tVar 1) tNil)) (tC (.int 9))) (tC (.int 4)))) tNext)
    (tSeq (tIfS (tTest (tOp (rEqD K) (tVar 0) (tC (.int 5)))) (tRet (tOp (rIxA K) (tLst (tCons (tC (.int 1)) (tCons (tUn (rU fun i => .int (-i)) (tC (.int 1))) tNil))) (tOp (rI (fun _ j => 0 < j) fun i j => .int (i % j)) (tCB rIntC (tCons (tVar 1) tNil)) (tC (.int 2))))) tNext)
    (tSeq (tIfS (tTest (tOp (rEqD K) (tVar 0) (tC (.int 6)))) (tRet (tOp rMulA (tC (.int 6)) (tOp (rI0 fun i j => .int (i - j)) (tOp (rI (fun _ j => 0 < j) fun i j => .int (i % j)) (tCB rIntC (tCons (tVar 1) tNil)) (tC (.int 21))) (tC (.int 10))))) tNext)
    (tSeq (tIfS (tTest (tOp (rEqD K) (tVar 0) (tC (.int 7)))) (tRet (tOp (rI0 fun i j => .int (i - j)) (tOp (rI (fun _ j => 0 < j) fun i j => .int (i % j)) (tCB rIntC (tCons (tVar 1) tNil)) (tC (.int 2001))) (tC (.int 1000)))) tNext)
    (tSeq (tIfS (tTest (tOp (rEqD K) (tVar 0) (tC (.int 8)))) (tRet (tOp (rIxA K) (tLst (tCons (tOp (rI CPow fun i j => .int (i ^ j.toNat)) (tC (.int 10)) (tC (.int 9))) (tCons (tUn (rU fun i => .int (-i)) (tOp (rI CPow fun i j => .int (i ^ j.toNat)) (tC (.int 10)) (tC (.int 9)))) (tCons (tOp (rI0 fun i j => .int (i - j)) (tOp (rI CPow fun i j => .int (i ^ j.toNat)) (tC (.int 10)) (tC (.int 9))) (tC (.int 1))) (tCons (tOp (rI0 fun i j => .int (i - j)) (tC (.int 1)) (tOp (rI CPow fun i j => .int (i ^ j.toNat)) (tC (.int 10)) (tC (.int 9)))) (tCons (tC (.int 999999937)) (tCons (tUn (rU fun i => .int (-i)) (tC (.int 536870912))) tNil))))))) (tOp (rI (fun _ j => 0 < j) fun i j => .int (i % j)) (tCB rIntC (tCons (tVar 1) tNil)) (tC (.int 6))))) tNext)
    (tSeq (tIfS (tTest (tOp (rEqD K) (tVar 0) (tC (.int 9)))) (tRet (tOp (rI0 fun i j => .int (i - j)) (tOp (rI (fun _ j => 0 < j) fun i j => .int (i % j)) (tCB rIntC (tCons (tOp (rAddA K) (tVar 1) (tOp rMulA (tC (.int 100000)) (tVar 2))) tNil)) (tC (.int 2000000001))) (tOp (rI CPow fun i j => .int (i ^ j.toNat)) (tC (.int 10)) (tC (.int 9))))) tNext)
    (tSeq (tIfS (tTest (tOp (rEqD K) (tVar 0) (tC (.int 10)))) (tRet (tOp (rI0 fun i j => .int (i - j)) (tOp (rI (fun _ j => 0 < j) fun i j => .int (i % j)) (tCB rIntC (tCons (tVar 1) tNil)) (tC (.int 25))) (tC (.int 12)))) tNext)
    (tRet (tOp rMulA (tC (.int 30030)) (tOp (rI0 fun i j => .int (i - j)) (tOp (rI (fun _ j => 0 < j) fun i j => .int (i % j)) (tCB rIntC (tCons (tVar 1) tNil)) (tC (.int 65))) (tC (.int 32)))))))))))))
theorem cal_law_coefficient {P : Program} {w : World} {K : PySem.W.Frag} {mg : Str → Option Value} {base : Heap} (A : FunAt K mg "_law_coefficient" s_law_coefficient P_law_coefficient) (B : Bt K mg)
    (pr : ∀ W ds r, fr_law_coefficient ds r → FnEnd K W (t_law_coefficient K W) (entry N_law_coefficient ds) r) : Cal P w K mg base 1 "_law_coefficient" P_law_coefficient fr_law_coefficient := by
  have sc := sc_law_coefficient
  refine cal_of A sc _ fun f cdv A outer s H E hr => ⟨t_law_coefficient K (wD E), ?_, fun ds r h _ => pr _ ds r h⟩
  have tk : L2N.Takes (cxD P w K mg base N_law_coefficient "_law_coefficient" s_law_coefficient f cdv A outer s H E) (wD E) := L2N.takes_of rfl rfl rfl rfl
  have hp : PassesOwn (model P w) (cxD P w K mg base N_law_coefficient "_law_coefficient" s_law_coefficient f cdv A outer s H E).A (cxD P w K mg base N_law_coefficient "_law_coefficient" s_law_coefficient f cdv A outer s H E).env (cxD P w K mg base N_law_coefficient "_law_coefficient" s_law_coefficient f cdv A outer s H E).xe := passes_of rfl
  exact (pss_cons (ps_if (pt_cmpR (op_eqD hr.units) (pv 0) pe_int (nomark _)) (pss_one (ps_ret pe_int)) pss_nil)
    (pss_cons (ps_if (pt_cmpR op_lt (pv 0) pe_int (nomark _)) (pss_one (ps_ret (pe_op op_sub (pe_op op_mod (pe_callTy cr_int (by rfl) B.b_int (by decide +kernel) (pa_cons (pv 1) pa_nil)) pe_int) pe_int))) pss_nil)
    (pss_cons (ps_if (pt_cmpR (op_eqD hr.units) (pv 0) pe_int (nomark _)) (pss_one (ps_ret (pe_ix ix_any (pe_lst (pa_cons pe_int (pa_cons (pe_un un_neg pe_int) pa_nil))) (pe_op op_mod (pe_callTy cr_int (by rfl) B.b_int (by decide +kernel) (pa_cons (pv 1) pa_nil)) pe_int) (fun _ _ => rfl)))) pss_nil)
    (pss_cons (ps_if (pt_cmpR (op_eqD hr.units) (pv 0) pe_int (nomark _)) (pss_one (ps_ret (pe_op opA_mul pe_int (pe_op op_sub (pe_op op_mod (pe_callTy cr_int (by rfl) B.b_int (by decide +kernel) (pa_cons (pv 1) pa_nil)) pe_int) pe_int)))) pss_nil)
    (pss_cons (ps_if (pt_cmpR (op_eqD hr.units) (pv 0) pe_int (nomark _)) (pss_one (ps_ret (pe_op op_sub (pe_op op_mod (pe_callTy cr_int (by rfl) B.b_int (by decide +kernel) (pa_cons (pv 1) pa_nil)) pe_int) pe_int))) pss_nil)
    (pss_cons (ps_if (pt_cmpR (op_eqD hr.units) (pv 0) pe_int (nomark _)) (pss_one (ps_ret (pe_ix ix_any (pe_lst (pa_cons (pe_op op_pow pe_int pe_int) (pa_cons (pe_un un_neg (pe_op op_pow pe_int pe_int)) (pa_cons (pe_op op_sub (pe_op op_pow pe_int pe_int) pe_int) (pa_cons (pe_op op_sub pe_int (pe_op op_pow pe_int pe_int)) (pa_cons pe_int (pa_cons (pe_un un_neg pe_int) pa_nil))))))) (pe_op op_mod (pe_callTy cr_int (by rfl) B.b_int (by decide +kernel) (pa_cons (pv 1) pa_nil)) pe_int) (fun _ _ => rfl)))) pss_nil)
    (pss_cons (ps_if (pt_cmpR (op_eqD hr.units) (pv 0) pe_int (nomark _)) (pss_one (ps_ret (pe_op op_sub (pe_op op_mod (pe_callTy cr_int (by rfl) B.b_int (by decide +kernel) (pa_cons (pe_op opA_add (pv 1) (pe_op opA_mul pe_int (pv 2))) pa_nil)) pe_int) (pe_op op_pow pe_int pe_int)))) pss_nil)
    (pss_cons (ps_if (pt_cmpR (op_eqD hr.units) (pv 0) pe_int (nomark _)) (pss_one (ps_ret (pe_op op_sub (pe_op op_mod (pe_callTy cr_int (by rfl) B.b_int (by decide +kernel) (pa_cons (pv 1) pa_nil)) pe_int) pe_int))) pss_nil)
    (pss_one (ps_ret (pe_op opA_mul pe_int (pe_op op_sub (pe_op op_mod (pe_callTy cr_int (by rfl) B.b_int (by decide +kernel) (pa_cons (pv 1) pa_nil)) pe_int) pe_int))))))))))))
def t_law_drawn (K : PySem.W.Frag) (W : WX) : TS :=
  (tSeq (tAsg (tLst (tCons (tOp (rIxA K) (tVar 0) (tC (.int 1))) (tCons (tC (.int 40)) (tCons (tOp (rI (fun _ j => 0 < j) fun i j => .int (i % j)) (tCB rIntC (tCons (tOp (rIxA K) (tVar 0) (tC (.int 1))) tNil)) (tC (.int 13))) (tCons (tOp (rAddA K) (tC (.int 2)) (tOp (rI (fun _ j => 0 < j) fun i j => .int (i % j)) (tCB rIntC (tCons (tOp (rIxA K) (tVar 0) (tC (.int 1))) tNil)) (tC (.int 6)))) (tCons (tOp (rI (fun _ j => 0 < j) fun i j => .int (i % j)) (tCB rIntC (tCons (tOp (rIxA K) (tVar 0) (tC (.int 1))) tNil)) (tC (.int 3))) tNil)))))) (gName 1))
    (tSeq (tAsg (tOp (rIxA K) (tVar 1) (tOp (rIxA K) (tLst (tCons (tC (.int 0)) (tCons (tC (.int 1)) (tCons (tC (.int 2)) (tCons (tC (.int 2)) (tCons (tC (.int 3)) (tCons (tC (.int 3)) (tCons (tC (.int 3)) (tCons (tC (.int 3)) (tCons (tC (.int 3)) (tCons (tC (.int 3)) (tCons (tC (.int 3)) (tCons (tC (.int 4)) tNil))))))))))))) (tOp (rIxA K) (tVar 0) (tC (.int 0))))) (gName 2))
    (tSeq (tAsg (tOp (rIxA K) (tLst (tCons (tC (.int 3)) (tCons (tC (.int 4)) (tCons (tC (.int 5)) (tCons (tC (.int 6)) (tCons (tC (.int 8)) (tCons (tC (.int 12)) (tCons (tC (.int 1)) (tCons (tC (.int 41)) tNil))))))))) (tOp (rIxA K) (tVar 0) (tC (.int 3)))) (gName 3))
    (tSeq (tAsg (tLst tNil) (gName 4))
    (tSeq (tFor (iRng1 (tCons (tVar 2) tNil)) (gName 5) (tSeq (tAsg (tSl (rSlAny K) (tVar 0) (tPart (tOp (rAddA K) (tC (.int 10)) (tOp rMulA (tC (.int 4)) (tVar 5)))) (tPart (tOp (rAddA K) (tC (.int 14)) (tOp rMulA (tC (.int 4)) (tVar 5))))) (gName 6))
    (tSeq (tAsg (tOp (rI0 fun i j => .int (i - j)) (tOp (rI (fun _ j => 0 < j) fun i j => .int (i % j)) (tCB rIntC (tCons (tOp (rAddA K) (tOp (rIxA K) (tVar 0) (tC (.int 2))) (tOp (rI (fun _ j => 0 < j) fun i j => .int (i % j)) (tCB rIntC (tCons (tOp (rIxA K) (tVar 6) (tC (.int 0))) tNil)) (tVar 3))) tNil)) (tC (.int 41))) (tC (.int 20))) (gName 7))
    (tDrop (tBM K "list" rAppend (tVar 4) (tCons (tLst (tCons (tVar 7) (tCons (tCallS (SpF K P_law_coefficient.length fr_law_coefficient) (WE W) (tCons (tOp (rIxA K) (tVar 6) (tC (.int 1))) (tCons (tOp (rIxA K) (tVar 6) (tC (.int 2))) (tCons (tOp (rIxA K) (tVar 6) (tC (.int 3))) tNil)))) tNil))) tNil))))))
    (tSeq (tAsg (tOp (rIxA K) (tLst (tCons (tC (.int 2)) (tCons (tUn (rU fun i => .int (-i)) (tC (.int 3))) (tCons (tC (.int 1000)) (tCons (tC (.int 12)) tNil))))) (tOp (rIxA K) (tVar 0) (tC (.int 5)))) (gName 8))
    (tSeq (tIfS (tAnd (tTest (tOp (rEqD K) (tOp (rIxA K) (tVar 0) (tC (.int 4))) (tC (.int 0)))) (tTest (tOp (rI0 fun i j => .bl (decide (i ≤ j))) (tOp rMulA (tC (.int 2)) (tVar 2)) (tC (.int 40))))) (tRet (tOp (rAddA K) (tVar 4) (tLc (iSeq K (tVar 4)) (gName 9) tYes (tLst (tCons (tOp (rIxA K) (tVar 9) (tC (.int 0))) (tCons (tUn (rU fun i => .int (-i)) (tOp (rIxA K) (tVar 9) (tC (.int 1)))) tNil))) [9]))) tNext)
    (tSeq (tIfS (tAnd (tTest (tOp (rEqD K) (tOp (rIxA K) (tVar 0) (tC (.int 4))) (tC (.int 1)))) (tTest (tOp (rI0 fun i j => .bl (decide (i ≤ j))) (tOp rMulA (tC (.int 2)) (tVar 2)) (tC (.int 40))))) (tRet (tOp (rAddA K) (tLc (iSeq K (tSl (rSlAny K) (tVar 4) tNoPart (tPart (tOp rDivA (tVar 2) (tC (.int 2)))))) (gName 9) tYes (tLst (tCons (tOp (rIxA K) (tVar 9) (tC (.int 0))) (tCons (tUn (rU fun i => .int (-i)) (tOp (rIxA K) (tVar 9) (tC (.int 1)))) tNil))) [9]) (tVar 4))) tNext)
    (tSeq (tIfS (tAnd (tTest (tOp (rEqD K) (tOp (rIxA K) (tVar 0) (tC (.int 4))) (tC (.int 2)))) (tTest (tOp (rI0 fun i j => .bl (decide (i ≤ j))) (tCB (rMax K) (tCons (tOp (rAddA K) (tLst (tCons (tC (.int 0)) tNil)) (tLc (iSeq K (tVar 4)) (gName 9) tYes (tCB rAbsC (tCons (tOp rMulA (tOp (rIxA K) (tVar 9) (tC (.int 1))) (tVar 8)) tNil)) [9])) tNil)) (tOp (rI CPow fun i j => .int (i ^ j.toNat)) (tC (.int 10)) (tC (.int 9)))))) (tRet (tLc (iSeq K (tVar 4)) (gName 9) tYes (tLst (tCons (tOp (rIxA K) (tVar 9) (tC (.int 0))) (tCons (tOp rMulA (tOp (rIxA K) (tVar 9) (tC (.int 1))) (tVar 8)) tNil))) [9])) tNext)
    (tRet (tVar 4)))))))))))
theorem cal_law_drawn {P : Program} {w : World} {K : PySem.W.Frag} {mg : Str → Option Value} {base : Heap} (A : FunAt K mg "_law_drawn" s_law_drawn P_law_drawn) (B : Bt K mg) (c_law_coefficient : Cal P w K mg base 1 "_law_coefficient" P_law_coefficient fr_law_coefficient)
    (pr : ∀ W ds r, fr_law_drawn ds r → FnEnd K W (t_law_drawn K W) (entry N_law_drawn ds) r) : Cal P w K mg base 2 "_law_drawn" P_law_drawn fr_law_drawn := by
  have sc := sc_law_drawn
  refine cal_of A sc _ fun f cdv A outer s H E hr => ⟨t_law_drawn K (wD E), ?_, fun ds r h _ => pr _ ds r h⟩
  have tk : L2N.Takes (cxD P w K mg base N_law_drawn "_law_drawn" s_law_drawn f cdv A outer s H E) (wD E) := L2N.takes_of rfl rfl rfl rfl
  have hp : PassesOwn (model P w) (cxD P w K mg base N_law_drawn "_law_drawn" s_law_drawn f cdv A outer s H E).A (cxD P w K mg base N_law_drawn "_law_drawn" s_law_drawn f cdv A outer s H E).env (cxD P w K mg base N_law_drawn "_law_drawn" s_law_drawn f cdv A outer s H E).xe := passes_of rfl
  exact (pss_cons (ps_set (i := 1) sc.nd rfl (Or.inl rfl) (pe_lst (pa_cons (pe_ix ix_any (pv 0) pe_int (fun _ _ => rfl)) (pa_cons pe_int (pa_cons (pe_op op_mod (pe_callTy cr_int (by rfl) B.b_int (by decide +kernel) (pa_cons (pe_ix ix_any (pv 0) pe_int (fun _ _ => rfl)) pa_nil)) pe_int) (pa_cons (pe_op opA_add pe_int (pe_op op_mod (pe_callTy cr_int (by rfl) B.b_int (by decide +kernel) (pa_cons (pe_ix ix_any (pv 0) pe_int (fun _ _ => rfl)) pa_nil)) pe_int)) (pa_cons (pe_op op_mod (pe_callTy cr_int (by rfl) B.b_int (by decide +kernel) (pa_cons (pe_ix ix_any (pv 0) pe_int (fun _ _ => rfl)) pa_nil)) pe_int) pa_nil)))))))
    (pss_cons (ps_set (i := 2) sc.nd rfl (Or.inl rfl) (pe_ix ix_any (pv 1) (pe_ix ix_any (pe_lst (pa_cons pe_int (pa_cons pe_int (pa_cons pe_int (pa_cons pe_int (pa_cons pe_int (pa_cons pe_int (pa_cons pe_int (pa_cons pe_int (pa_cons pe_int (pa_cons pe_int (pa_cons pe_int (pa_cons pe_int pa_nil))))))))))))) (pe_ix ix_any (pv 0) pe_int (fun _ _ => rfl)) (fun _ _ => rfl)) (fun _ _ => rfl)))
    (pss_cons (ps_set (i := 3) sc.nd rfl (Or.inl rfl) (pe_ix ix_any (pe_lst (pa_cons pe_int (pa_cons pe_int (pa_cons pe_int (pa_cons pe_int (pa_cons pe_int (pa_cons pe_int (pa_cons pe_int (pa_cons pe_int pa_nil))))))))) (pe_ix ix_any (pv 0) pe_int (fun _ _ => rfl)) (fun _ _ => rfl)))
    (pss_cons (ps_set (i := 4) sc.nd rfl (Or.inl rfl) (pe_lst pa_nil))
    (pss_cons (ps_for hp rfl (pi_range1 (by rfl) B.b_range (pa_cons (pv 2) pa_nil)) (pg_name (i := 5) sc.nd rfl (Or.inl rfl)) (pss_cons (ps_set (i := 6) sc.nd rfl (Or.inl rfl) (pe_slice sl_any (pv 0) (po_some (pe_op opA_add pe_int (pe_op opA_mul pe_int (pv 5)))) (po_some (pe_op opA_add pe_int (pe_op opA_mul pe_int (pv 5))))))
    (pss_cons (ps_set (i := 7) sc.nd rfl (Or.inl rfl) (pe_op op_sub (pe_op op_mod (pe_callTy cr_int (by rfl) B.b_int (by decide +kernel) (pa_cons (pe_op opA_add (pe_ix ix_any (pv 0) pe_int (fun _ _ => rfl)) (pe_op op_mod (pe_callTy cr_int (by rfl) B.b_int (by decide +kernel) (pa_cons (pe_ix ix_any (pv 6) pe_int (fun _ _ => rfl)) pa_nil)) (pv 3))) pa_nil)) pe_int) pe_int))
    (pss_one (ps_expr (pe_bm PySem.F.plainAttrs_list PySem.F.slot_list_append PySem.F.type_list_append mt_append (pv 4) (pa_cons (pe_lst (pa_cons (pv 7) (pa_cons (pe_callD c_law_coefficient (hr.mono (by decide)) (by rfl) tk (pa_cons (pe_ix ix_any (pv 6) pe_int (fun _ _ => rfl)) (pa_cons (pe_ix ix_any (pv 6) pe_int (fun _ _ => rfl)) (pa_cons (pe_ix ix_any (pv 6) pe_int (fun _ _ => rfl)) pa_nil)))) pa_nil))) pa_nil)))))))
    (pss_cons (ps_set (i := 8) sc.nd rfl (Or.inr rfl) (pe_ix ix_any (pe_lst (pa_cons pe_int (pa_cons (pe_un un_neg pe_int) (pa_cons pe_int (pa_cons pe_int pa_nil))))) (pe_ix ix_any (pv 0) pe_int (fun _ _ => rfl)) (fun _ _ => rfl)))
    (pss_cons (ps_if ((pw_and (pt_cmpR (op_eqD hr.units) (pe_ix ix_any (pv 0) pe_int (fun _ _ => rfl)) pe_int (nomark _)) (pw_and1 (pt_cmpR op_le (pe_op opA_mul pe_int (pv 2)) pe_int (nomark _))))).pt (pss_one (ps_ret (pe_op opA_add (pv 4) (pe_lc (own := [("pair", 9)]) (tt := tYes) rfl sc.nd (pi_seq (pv 4)) (blkOk_by (N := N_law_drawn) (sc := defScope s_law_drawn) (by decide +kernel)) (fun _ _ _ _ _ => (pg_name (i := 9) sc.nd rfl (Or.inl rfl))) (fun _ _ _ _ _ => pts_nil) (fun _ _ _ _ _ => (pe_lst (pa_cons (pe_ix ix_any (pv 9) pe_int (fun _ _ => rfl)) (pa_cons (pe_un un_neg (pe_ix ix_any (pv 9) pe_int (fun _ _ => rfl))) pa_nil)))))))) pss_nil)
    (pss_cons (ps_if ((pw_and (pt_cmpR (op_eqD hr.units) (pe_ix ix_any (pv 0) pe_int (fun _ _ => rfl)) pe_int (nomark _)) (pw_and1 (pt_cmpR op_le (pe_op opA_mul pe_int (pv 2)) pe_int (nomark _))))).pt (pss_one (ps_ret (pe_op opA_add (pe_lc (own := [("pair", 9)]) (tt := tYes) rfl sc.nd (pi_seq (pe_slice sl_any (pv 4) po_none (po_some (pe_op opA_div (pv 2) pe_int)))) (blkOk_by (N := N_law_drawn) (sc := defScope s_law_drawn) (by decide +kernel)) (fun _ _ _ _ _ => (pg_name (i := 9) sc.nd rfl (Or.inl rfl))) (fun _ _ _ _ _ => pts_nil) (fun _ _ _ _ _ => (pe_lst (pa_cons (pe_ix ix_any (pv 9) pe_int (fun _ _ => rfl)) (pa_cons (pe_un un_neg (pe_ix ix_any (pv 9) pe_int (fun _ _ => rfl))) pa_nil))))) (pv 4)))) pss_nil)
    (pss_cons (ps_if ((pw_and (pt_cmpR (op_eqD hr.units) (pe_ix ix_any (pv 0) pe_int (fun _ _ => rfl)) pe_int (nomark _)) (pw_and1 (pt_cmpR op_le (pe_callB (cr_max rfl) (by rfl) B.b_max (by decide +kernel) (pa_cons (pe_op opA_add (pe_lst (pa_cons pe_int pa_nil)) (pe_lc (own := [("pair", 9)]) (tt := tYes) rfl sc.nd (pi_seq (pv 4)) (blkOk_by (N := N_law_drawn) (sc := defScope s_law_drawn) (by decide +kernel)) (fun _ _ _ _ _ => (pg_name (i := 9) sc.nd rfl (Or.inl rfl))) (fun _ _ _ _ _ => pts_nil) (fun _ _ _ _ _ => (pe_callB cr_abs (by rfl) B.b_abs (by decide +kernel) (pa_cons (pe_op opA_mul (pe_ix ix_any (pv 9) pe_int (fun _ _ => rfl)) (pv 8)) pa_nil))))) pa_nil)) (pe_op op_pow pe_int pe_int) (nomark _))))).pt (pss_one (ps_ret (pe_lc (own := [("pair", 9)]) (tt := tYes) rfl sc.nd (pi_seq (pv 4)) (blkOk_by (N := N_law_drawn) (sc := defScope s_law_drawn) (by decide +kernel)) (fun _ _ _ _ _ => (pg_name (i := 9) sc.nd rfl (Or.inl rfl))) (fun _ _ _ _ _ => pts_nil) (fun _ _ _ _ _ => (pe_lst (pa_cons (pe_ix ix_any (pv 9) pe_int (fun _ _ => rfl)) (pa_cons (pe_op opA_mul (pe_ix ix_any (pv 9) pe_int (fun _ _ => rfl)) (pv 8)) pa_nil))))))) pss_nil)
    (pss_one (ps_ret (pv 4))))))))))))
def t_law_passed (K : PySem.W.Frag) (W : WX) : TS :=
  (tSeq (tIfS (tTest (tOp (rEqD K) (tVar 1) (tC (.int 0)))) (tRet (tLc (iSeq K (tVar 0)) (gName 2) tYes (tLst (tCons (tOp (rIxA K) (tVar 2) (tC (.int 0))) (tCons (tOp (rIxA K) (tVar 2) (tC (.int 1))) tNil))) [2])) tNext)
    (tSeq (tIfS (tTest (tOp (rEqD K) (tVar 1) (tC (.int 1)))) (tRet (tLc (iSeq K (tVar 0)) (gName 2) tYes (tTup (tCons (tOp (rIxA K) (tVar 2) (tC (.int 0))) (tCons (tOp (rIxA K) (tVar 2) (tC (.int 1))) tNil))) [2])) tNext)
    (tSeq (tIfS (tTest (tOp (rEqD K) (tVar 1) (tC (.int 2)))) (tRet (tCB (rTupC K) (tCons (tLc (iSeq K (tVar 0)) (gName 2) tYes (tLst (tCons (tOp (rIxA K) (tVar 2) (tC (.int 0))) (tCons (tOp (rIxA K) (tVar 2) (tC (.int 1))) tNil))) [2]) tNil))) tNext)
    (tSeq (tIfS (tTest (tOp (rEqD K) (tVar 1) (tC (.int 3)))) (tRet (tCB (rTupC K) (tCons (tLc (iSeq K (tVar 0)) (gName 2) tYes (tTup (tCons (tOp (rIxA K) (tVar 2) (tC (.int 0))) (tCons (tOp (rIxA K) (tVar 2) (tC (.int 1))) tNil))) [2]) tNil))) tNext)
    (tSeq (tAsg (tLst tNil) (gName 3))
    (tSeq (tFor (iSeq K (tVar 0)) (gName 2) (tIfS (tOr (tTest (tOp (rEqD K) (tCB (rLenA K) (tCons (tVar 3) tNil)) (tC (.int 1)))) (tTest (tOp (rEqD K) (tCB (rLenA K) (tCons (tVar 3) tNil)) (tC (.int 2))))) (tDrop (tBM K "list" rAppend (tVar 3) (tCons (tLst (tCons (tOp (rIxA K) (tVar 2) (tC (.int 0))) (tCons (tOp (rIxA K) (tVar 2) (tC (.int 1))) tNil))) tNil))) (tDrop (tBM K "list" rAppend (tVar 3) (tCons (tTup (tCons (tOp (rIxA K) (tVar 2) (tC (.int 0))) (tCons (tOp (rIxA K) (tVar 2) (tC (.int 1))) tNil))) tNil)))))
    (tRet (tVar 3))))))))
theorem cal_law_passed {P : Program} {w : World} {K : PySem.W.Frag} {mg : Str → Option Value} {base : Heap} (A : FunAt K mg "_law_passed" s_law_passed P_law_passed) (B : Bt K mg)
    (pr : ∀ W ds r, fr_law_passed ds r → FnEnd K W (t_law_passed K W) (entry N_law_passed ds) r) : Cal P w K mg base 1 "_law_passed" P_law_passed fr_law_passed := by
  have sc := sc_law_passed
  refine cal_of A sc _ fun f cdv A outer s H E hr => ⟨t_law_passed K (wD E), ?_, fun ds r h _ => pr _ ds r h⟩
  have tk : L2N.Takes (cxD P w K mg base N_law_passed "_law_passed" s_law_passed f cdv A outer s H E) (wD E) := L2N.takes_of rfl rfl rfl rfl
  have hp : PassesOwn (model P w) (cxD P w K mg base N_law_passed "_law_passed" s_law_passed f cdv A outer s H E).A (cxD P w K mg base N_law_passed "_law_passed" s_law_passed f cdv A outer s H E).env (cxD P w K mg base N_law_passed "_law_passed" s_law_passed f cdv A outer s H E).xe := passes_of rfl
  exact (pss_cons (ps_if (pt_cmpR (op_eqD hr.units) (pv 1) pe_int (nomark _)) (pss_one (ps_ret (pe_lc (own := [("pair", 2)]) (tt := tYes) rfl sc.nd (pi_seq (pv 0)) (blkOk_by (N := N_law_passed) (sc := defScope s_law_passed) (by decide +kernel)) (fun _ _ _ _ _ => (pg_name (i := 2) sc.nd rfl (Or.inl rfl))) (fun _ _ _ _ _ => pts_nil) (fun _ _ _ _ _ => (pe_lst (pa_cons (pe_ix ix_any (pv 2) pe_int (fun _ _ => rfl)) (pa_cons (pe_ix ix_any (pv 2) pe_int (fun _ _ => rfl)) pa_nil))))))) pss_nil)
    (pss_cons (ps_if (pt_cmpR (op_eqD hr.units) (pv 1) pe_int (nomark _)) (pss_one (ps_ret (pe_lc (own := [("pair", 2)]) (tt := tYes) rfl sc.nd (pi_seq (pv 0)) (blkOk_by (N := N_law_passed) (sc := defScope s_law_passed) (by decide +kernel)) (fun _ _ _ _ _ => (pg_name (i := 2) sc.nd rfl (Or.inl rfl))) (fun _ _ _ _ _ => pts_nil) (fun _ _ _ _ _ => (pe_tup (pa_cons (pe_ix ix_any (pv 2) pe_int (fun _ _ => rfl)) (pa_cons (pe_ix ix_any (pv 2) pe_int (fun _ _ => rfl)) pa_nil))))))) pss_nil)
    (pss_cons (ps_if (pt_cmpR (op_eqD hr.units) (pv 1) pe_int (nomark _)) (pss_one (ps_ret (pe_callTy call_tuple_of (by rfl) B.b_tuple (by decide +kernel) (pa_cons (pe_lc (own := [("pair", 2)]) (tt := tYes) rfl sc.nd (pi_seq (pv 0)) (blkOk_by (N := N_law_passed) (sc := defScope s_law_passed) (by decide +kernel)) (fun _ _ _ _ _ => (pg_name (i := 2) sc.nd rfl (Or.inl rfl))) (fun _ _ _ _ _ => pts_nil) (fun _ _ _ _ _ => (pe_lst (pa_cons (pe_ix ix_any (pv 2) pe_int (fun _ _ => rfl)) (pa_cons (pe_ix ix_any (pv 2) pe_int (fun _ _ => rfl)) pa_nil))))) pa_nil)))) pss_nil)
    (pss_cons (ps_if (pt_cmpR (op_eqD hr.units) (pv 1) pe_int (nomark _)) (pss_one (ps_ret (pe_callTy call_tuple_of (by rfl) B.b_tuple (by decide +kernel) (pa_cons (pe_lc (own := [("pair", 2)]) (tt := tYes) rfl sc.nd (pi_seq (pv 0)) (blkOk_by (N := N_law_passed) (sc := defScope s_law_passed) (by decide +kernel)) (fun _ _ _ _ _ => (pg_name (i := 2) sc.nd rfl (Or.inl rfl))) (fun _ _ _ _ _ => pts_nil) (fun _ _ _ _ _ => (pe_tup (pa_cons (pe_ix ix_any (pv 2) pe_int (fun _ _ => rfl)) (pa_cons (pe_ix ix_any (pv 2) pe_int (fun _ _ => rfl)) pa_nil))))) pa_nil)))) pss_nil)
    (pss_cons (ps_set (i := 3) sc.nd rfl (Or.inl rfl) (pe_lst pa_nil))
    (pss_cons (ps_for hp rfl (pi_seq (pv 0)) (pg_name (i := 2) sc.nd rfl (Or.inl rfl)) (pss_one (ps_if ((pw_or (pt_cmpR (op_eqD hr.units) (pe_callB cr_lenA (by rfl) B.b_len (by decide +kernel) (pa_cons (pv 3) pa_nil)) pe_int (nomark _)) (pw_or1 (pt_cmpR (op_eqD hr.units) (pe_callB cr_lenA (by rfl) B.b_len (by decide +kernel) (pa_cons (pv 3) pa_nil)) pe_int (nomark _))))).pt (pss_one (ps_expr (pe_bm PySem.F.plainAttrs_list PySem.F.slot_list_append PySem.F.type_list_append mt_append (pv 3) (pa_cons (pe_lst (pa_cons (pe_ix ix_any (pv 2) pe_int (fun _ _ => rfl)) (pa_cons (pe_ix ix_any (pv 2) pe_int (fun _ _ => rfl)) pa_nil))) pa_nil)))) (pss_one (ps_expr (pe_bm PySem.F.plainAttrs_list PySem.F.slot_list_append PySem.F.type_list_append mt_append (pv 3) (pa_cons (pe_tup (pa_cons (pe_ix ix_any (pv 2) pe_int (fun _ _ => rfl)) (pa_cons (pe_ix ix_any (pv 2) pe_int (fun _ _ => rfl)) pa_nil))) pa_nil)))))))
    (pss_one (ps_ret (pv 3)))))))))
def t_law_other_pairs (K : PySem.W.Frag) (W : WX) : TS :=
  (tSeq (tIfS (tAnd (tTest (tOp (rEqD K) (tVar 1) (tC (.int 0)))) (tTest (tOp (rI0 fun i j => .bl (decide (i ≤ j))) (tOp rMulA (tC (.int 2)) (tCB (rLenA K) (tCons (tVar 0) tNil))) (tC (.int 40))))) (tSeq (tAsg (tLc (iSeq K (tVar 0)) (gName 3) tYes (tLst (tCons (tOp (rIxA K) (tVar 3) (tC (.int 0))) (tCons (tOp rDivA (tOp (rIxA K) (tVar 3) (tC (.int 1))) (tC (.int 2))) tNil))) [3]) (gName 2))
    (tRet (tOp (rAddA K) (tVar 2) (tLc (iSeq K (tVar 0)) (gName 3) tYes (tLst (tCons (tOp (rIxA K) (tVar 3) (tC (.int 0))) (tCons (tOp (rI0 fun i j => .int (i - j)) (tOp (rIxA K) (tVar 3) (tC (.int 1))) (tOp rDivA (tOp (rIxA K) (tVar 3) (tC (.int 1))) (tC (.int 2)))) tNil))) [3])))) tNext)
    (tSeq (tIfS (tAnd (tTest (tOp (rEqD K) (tVar 1) (tC (.int 1)))) (tTest (tOp (rI0 fun i j => .bl (decide (i ≤ j))) (tOp (rAddA K) (tCB (rLenA K) (tCons (tVar 0) tNil)) (tC (.int 2))) (tC (.int 40))))) (tRet (tOp (rAddA K) (tOp (rAddA K) (tLst (tCons (tLst (tCons (tC (.int 20)) (tCons (tC (.int 0)) tNil))) tNil)) (tVar 0)) (tLst (tCons (tLst (tCons (tUn (rU fun i => .int (-i)) (tC (.int 20))) (tCons (tC (.int 0)) tNil))) tNil)))) tNext)
    (tRet (tLc (iRng1 (tCons (tCB (rLenA K) (tCons (tVar 0) tNil)) tNil)) (gName 4) tYes (tOp (rIxA K) (tVar 0) (tOp (rI0 fun i j => .int (i - j)) (tOp (rI0 fun i j => .int (i - j)) (tCB (rLenA K) (tCons (tVar 0) tNil)) (tC (.int 1))) (tVar 4))) [4]))))
theorem cal_law_other_pairs {P : Program} {w : World} {K : PySem.W.Frag} {mg : Str → Option Value} {base : Heap} (A : FunAt K mg "_law_other_pairs" s_law_other_pairs P_law_other_pairs) (B : Bt K mg)
    (pr : ∀ W ds r, fr_law_other_pairs ds r → FnEnd K W (t_law_other_pairs K W) (entry N_law_other_pairs ds) r) : Cal P w K mg base 1 "_law_other_pairs" P_law_other_pairs fr_law_other_pairs := by
  have sc := sc_law_other_pairs
  refine cal_of A sc _ fun f cdv A outer s H E hr => ⟨t_law_other_pairs K (wD E), ?_, fun ds r h _ => pr _ ds r h⟩
  have tk : L2N.Takes (cxD P w K mg base N_law_other_pairs "_law_other_pairs" s_law_other_pairs f cdv A outer s H E) (wD E) := L2N.takes_of rfl rfl rfl rfl
  have hp : PassesOwn (model P w) (cxD P w K mg base N_law_other_pairs "_law_other_pairs" s_law_other_pairs f cdv A outer s H E).A (cxD P w K mg base N_law_other_pairs "_law_other_pairs" s_law_other_pairs f cdv A outer s H E).env (cxD P w K mg base N_law_other_pairs "_law_other_pairs" s_law_other_pairs f cdv A outer s H E).xe := passes_of rfl
  exact (pss_cons (ps_if ((pw_and (pt_cmpR (op_eqD hr.units) (pv 1) pe_int (nomark _)) (pw_and1 (pt_cmpR op_le (pe_op opA_mul pe_int (pe_callB cr_lenA (by rfl) B.b_len (by decide +kernel) (pa_cons (pv 0) pa_nil))) pe_int (nomark _))))).pt (pss_cons (ps_setLc (i := 2) (own := [("pair", 3)]) (tt := tYes) rfl sc.nd rfl rfl (sw_true rfl rfl rfl (by decide +kernel)) (pi_seq (pv 0)) (blkOk_by (N := N_law_other_pairs) (sc := defScope s_law_other_pairs) (by decide +kernel)) (fun _ _ _ _ _ => (pg_name (i := 3) sc.nd rfl (Or.inl rfl))) (fun _ _ _ _ _ => pts_nil) (fun _ _ _ _ _ => (pe_lst (pa_cons (pe_ix ix_any (pv 3) pe_int (fun _ _ => rfl)) (pa_cons (pe_op opA_div (pe_ix ix_any (pv 3) pe_int (fun _ _ => rfl)) pe_int) pa_nil)))))
    (pss_one (ps_ret (pe_op opA_add (pv 2) (pe_lc (own := [("pair", 3)]) (tt := tYes) rfl sc.nd (pi_seq (pv 0)) (blkOk_by (N := N_law_other_pairs) (sc := defScope s_law_other_pairs) (by decide +kernel)) (fun _ _ _ _ _ => (pg_name (i := 3) sc.nd rfl (Or.inl rfl))) (fun _ _ _ _ _ => pts_nil) (fun _ _ _ _ _ => (pe_lst (pa_cons (pe_ix ix_any (pv 3) pe_int (fun _ _ => rfl)) (pa_cons (pe_op op_sub (pe_ix ix_any (pv 3) pe_int (fun _ _ => rfl)) (pe_op opA_div (pe_ix ix_any (pv 3) pe_int (fun _ _ => rfl)) pe_int)) pa_nil))))))))) pss_nil)
    (pss_cons (ps_if ((pw_and (pt_cmpR (op_eqD hr.units) (pv 1) pe_int (nomark _)) (pw_and1 (pt_cmpR op_le (pe_op opA_add (pe_callB cr_lenA (by rfl) B.b_len (by decide +kernel) (pa_cons (pv 0) pa_nil)) pe_int) pe_int (nomark _))))).pt (pss_one (ps_ret (pe_op opA_add (pe_op opA_add (pe_lst (pa_cons (pe_lst (pa_cons pe_int (pa_cons pe_int pa_nil))) pa_nil)) (pv 0)) (pe_lst (pa_cons (pe_lst (pa_cons (pe_un un_neg pe_int) (pa_cons pe_int pa_nil))) pa_nil))))) pss_nil)
    (pss_one (ps_ret (pe_lc (own := [("k", 4)]) (tt := tYes) rfl sc.nd (pi_range1 (by rfl) B.b_range (pa_cons (pe_callB cr_lenA (by rfl) B.b_len (by decide +kernel) (pa_cons (pv 0) pa_nil)) pa_nil)) (blkOk_by (N := N_law_other_pairs) (sc := defScope s_law_other_pairs) (by decide +kernel)) (fun _ _ _ _ _ => (pg_name (i := 4) sc.nd rfl (Or.inl rfl))) (fun _ _ _ _ _ => pts_nil) (fun _ _ _ _ _ => (pe_ix ix_any (pv 0) (pe_op op_sub (pe_op op_sub (pe_callB cr_lenA (by rfl) B.b_len (by decide +kernel) (pa_cons (pv 0) pa_nil)) pe_int) (pv 4)) (fun _ _ => rfl))))))))
def t_law_another (K : PySem.W.Frag) (a : Addr) (cls : Value) (d : Option Addr) (W : WX) : TS :=
  (tRet (tCB (rIsY K a cls d) (tCons (tVar 0) (tCons (tTup (tCons (tC (.ref (He.ga K "BadName"))) (tCons (tC (.ref (He.ga K "BadNotation"))) (tCons (tC (.ref (He.ga K "BadParts"))) (tCons (tC (.ref (He.ga K "BadStretch"))) (tCons (tC (.ref (He.ga K "Barred"))) (tCons (tC (.ref (He.ga K "BreaksOwnRule"))) (tCons (tC (.ref (He.ga K "Broken"))) (tCons (tC (.ref (He.ga K "CannotStand"))) (tCons (tC (.ref (He.ga K "Contradiction"))) (tCons (tC (.ref (He.ga K "NoFamilies"))) (tCons (tC (.ref (He.ga K "NoQuotient"))) (tCons (tC (.ref (He.ga K "NoRows"))) (tCons (tC (.ref (He.ga K "NotBlocked"))) (tCons (tC (.ref (He.ga K "NotCourse"))) (tCons (tC (.ref (He.ga K "NotEntered"))) (tCons (tC (.ref (He.ga K "NotFinite"))) (tCons (tC (.ref (He.ga K "NotFree"))) (tCons (tC (.ref (He.ga K "NotLet"))) (tCons (tC (.ref (He.ga K "NotStricter"))) (tCons (tC (.ref (He.ga K "NotTimely"))) (tCons (tC (.ref (He.ga K "NothingToUndo"))) (tCons (tC (.ref (He.ga K "RowTwice"))) (tCons (tC (.ref (He.ga K "RowsDiffer"))) (tCons (tC (.ref (He.ga K "ShortStretch"))) (tCons (tC (.ref (He.ga K "SpotTwice"))) (tCons (tC (.ref (He.ga K "TooLong"))) (tCons (tC (.ref (He.ga K "UnknownRow"))) (tCons (tC (.ref (He.ga K "Unsure"))) (tCons (tC (.ref (He.ga K "ZeroSum"))) tNil)))))))))))))))))))))))))))))) tNil))))
theorem cal_law_another {P : Program} {w : World} {K : PySem.W.Frag} {mg : Str → Option Value} {base : Heap} (A : FunAt K mg "_law_another" s_law_another P_law_another) (B : Bt K mg)
    (pr : ∀ W a C ds r, (fr_law_another K) a C ds r → FnEnd K W (t_law_another K a (.ref C) none W) (entry N_law_another ds) r) : CalX P w K mg base 1 "_law_another" P_law_another (fr_law_another K) := by
  have sc := sc_law_another
  refine calX_of A sc _ fun f cdv A outer s H E p hot hr hf => ⟨t_law_another K p.1 p.2.cls p.2.dict (wD E), ?_, fun C h1 h2 ds r h _ => by rw [h1, h2]; exact pr _ _ _ ds r h⟩
  obtain ⟨a, oe⟩ := p
  have tk : L2N.Takes (L2H.cxH (L2N.CX P w) P w K mg base N_law_another "_law_another" (defScope s_law_another) f cdv A outer s H E (a, oe)) W0 := takesN
  exact (pss_one (ps_ret (pe_callB (cr_isY (List.mem_cons_self) ⟨rfl, rfl⟩ hf) (by rfl) B.b_isinstance (by decide +kernel) (pa_cons (pv 0) (pa_cons (pe_tup (pa_cons (pe_glob (v := .ref (He.ga K "BadName")) (by rfl) B.g_BadName rfl) (pa_cons (pe_glob (v := .ref (He.ga K "BadNotation")) (by rfl) B.g_BadNotation rfl) (pa_cons (pe_glob (v := .ref (He.ga K "BadParts")) (by rfl) B.g_BadParts rfl) (pa_cons (pe_glob (v := .ref (He.ga K "BadStretch")) (by rfl) B.g_BadStretch rfl) (pa_cons (pe_glob (v := .ref (He.ga K "Barred")) (by rfl) B.g_Barred rfl) (pa_cons (pe_glob (v := .ref (He.ga K "BreaksOwnRule")) (by rfl) B.g_BreaksOwnRule rfl) (pa_cons (pe_glob (v := .ref (He.ga K "Broken")) (by rfl) B.g_Broken rfl) (pa_cons (pe_glob (v := .ref (He.ga K "CannotStand")) (by rfl) B.g_CannotStand rfl) (pa_cons (pe_glob (v := .ref (He.ga K "Contradiction")) (by rfl) B.g_Contradiction rfl) (pa_cons (pe_glob (v := .ref (He.ga K "NoFamilies")) (by rfl) B.g_NoFamilies rfl) (pa_cons (pe_glob (v := .ref (He.ga K "NoQuotient")) (by rfl) B.g_NoQuotient rfl) (pa_cons (pe_glob (v := .ref (He.ga K "NoRows")) (by rfl) B.g_NoRows rfl) (pa_cons (pe_glob (v := .ref (He.ga K "NotBlocked")) (by rfl) B.g_NotBlocked rfl) (pa_cons (pe_glob (v := .ref (He.ga K "NotCourse")) (by rfl) B.g_NotCourse rfl) (pa_cons (pe_glob (v := .ref (He.ga K "NotEntered")) (by rfl) B.g_NotEntered rfl) (pa_cons (pe_glob (v := .ref (He.ga K "NotFinite")) (by rfl) B.g_NotFinite rfl) (pa_cons (pe_glob (v := .ref (He.ga K "NotFree")) (by rfl) B.g_NotFree rfl) (pa_cons (pe_glob (v := .ref (He.ga K "NotLet")) (by rfl) B.g_NotLet rfl) (pa_cons (pe_glob (v := .ref (He.ga K "NotStricter")) (by rfl) B.g_NotStricter rfl) (pa_cons (pe_glob (v := .ref (He.ga K "NotTimely")) (by rfl) B.g_NotTimely rfl) (pa_cons (pe_glob (v := .ref (He.ga K "NothingToUndo")) (by rfl) B.g_NothingToUndo rfl) (pa_cons (pe_glob (v := .ref (He.ga K "RowTwice")) (by rfl) B.g_RowTwice rfl) (pa_cons (pe_glob (v := .ref (He.ga K "RowsDiffer")) (by rfl) B.g_RowsDiffer rfl) (pa_cons (pe_glob (v := .ref (He.ga K "ShortStretch")) (by rfl) B.g_ShortStretch rfl) (pa_cons (pe_glob (v := .ref (He.ga K "SpotTwice")) (by rfl) B.g_SpotTwice rfl) (pa_cons (pe_glob (v := .ref (He.ga K "TooLong")) (by rfl) B.g_TooLong rfl) (pa_cons (pe_glob (v := .ref (He.ga K "UnknownRow")) (by rfl) B.g_UnknownRow rfl) (pa_cons (pe_glob (v := .ref (He.ga K "Unsure")) (by rfl) B.g_Unsure rfl) (pa_cons (pe_glob (v := .ref (He.ga K "ZeroSum")) (by rfl) B.g_ZeroSum rfl) pa_nil)))))))))))))))))))))))))))))) pa_nil)))))
def t_law_spanless (K : PySem.W.Frag) (W : WX) : TS :=
  (tSeq (tAsg (tC (.int 0)) (gName 1))
    (tSeq (tTryAs K (.ref (He.ga K "ZeroPolynomial")) 2 (fun W1 => (tDrop (tCallS (SpF K Pspan.length (frspan K)) (WE W1) (tCons (tVar 0) tNil)))) (fun a1 cls1 d1 => (tIfS (tAnd (tB (tCB (rIsY K a1 cls1 d1) (tCons (tVar 2) (tCons (tC (.ref (He.ga K "RowError"))) tNil)))) (tAnd (tB (tCB (rIsY K a1 cls1 d1) (tCons (tVar 2) (tCons (tC (.ty "ValueError")) tNil)))) (tNot (tB (tCallS (SpY K P_law_another.length (fr_law_another K) a1 cls1 d1) (WE W0) (tCons (tVar 2) tNil)))))) (tAsg (tOp (rAddA K) (tVar 1) (tC (.int 1))) (gName 1)) tNext)) W)
    (tSeq (tTryAs K (.ref (He.ga K "RowError")) 2 (fun W2 => (tDrop (tCallS (SpF K Pspan.length (frspan K)) (WE W2) (tCons (tVar 0) tNil)))) (fun a2 cls2 d2 => (tIfS (tB (tCB (rIsY K a2 cls2 d2) (tCons (tVar 2) (tCons (tC (.ref (He.ga K "ZeroPolynomial"))) tNil)))) (tAsg (tOp (rAddA K) (tVar 1) (tC (.int 1))) (gName 1)) tNext)) W)
    (tRet (tOp (rEqD K) (tVar 1) (tC (.int 2)))))))
theorem cal_law_spanless {P : Program} {w : World} {K : PySem.W.Frag} {mg : Str → Option Value} {base : Heap} (A : FunAt K mg "_law_spanless" s_law_spanless P_law_spanless) (B : Bt K mg) (cspan : Cal P w K mg base 2 "span" Pspan (frspan K)) (c_law_another : CalX P w K mg base 1 "_law_another" P_law_another (fr_law_another K))
    (pr : ∀ W ds r, fr_law_spanless ds r → FnEnd K W (t_law_spanless K W) (entry N_law_spanless ds) r) : Cal P w K mg base 3 "_law_spanless" P_law_spanless fr_law_spanless := by
  have sc := sc_law_spanless
  refine cal_of A sc _ fun f cdv A outer s H E hr => ⟨t_law_spanless K (wD E), ?_, fun ds r h _ => pr _ ds r h⟩
  have tk : L2N.Takes (cxD P w K mg base N_law_spanless "_law_spanless" s_law_spanless f cdv A outer s H E) (wD E) := L2N.takes_of rfl rfl rfl rfl
  have hp : PassesOwn (model P w) (cxD P w K mg base N_law_spanless "_law_spanless" s_law_spanless f cdv A outer s H E).A (cxD P w K mg base N_law_spanless "_law_spanless" s_law_spanless f cdv A outer s H E).env (cxD P w K mg base N_law_spanless "_law_spanless" s_law_spanless f cdv A outer s H E).xe := passes_of rfl
  exact (pss_cons (ps_set (i := 1) sc.nd rfl (Or.inl rfl) pe_int)
    (pss_cons (ps_tryD 2 rfl rfl sc.nd rfl rfl ⟨by rfl, by decide, .inl B.g_ZeroPolynomial⟩ tk (fun W1 pn1 xe1 tk1 hp1 => (pss_one (ps_expr (pe_callD cspan (hr.mono (by decide)) (by rfl) tk1 (pa_cons (pv 0) pa_nil))))) (fun a1 oe1 cls1 d1 pn1 hz1 hf1 => (pss_one (ps_if ((pw_and (pt_val (pe_callB (cr_isY (List.mem_cons_self) ⟨hz1.1, hz1.2.1⟩ hf1) (by rfl) B.b_isinstance (by decide +kernel) (pa_cons (pv 2) (pa_cons (pe_glob (v := .ref (He.ga K "RowError")) (by rfl) B.g_RowError rfl) pa_nil)))) (pw_and (pt_val (pe_callB (cr_isY (List.mem_cons_self) ⟨hz1.1, hz1.2.1⟩ hf1) (by rfl) B.b_isinstance (by decide +kernel) (pa_cons (pv 2) (pa_cons (pe_bltn (v := .ty "ValueError") (by rfl) B.b_ValueError (by decide +kernel) rfl) pa_nil)))) (pw_and1 (pt_not (pt_val (pe_callY c_law_another (L2H.roomH_mark (hr.mono (by decide)) _) rfl (List.mem_cons_self) hz1 hf1 (by rfl) takesN (pa_cons (pv 2) pa_nil)))))))).pt (pss_one (ps_set (i := 1) sc.nd rfl (Or.inl rfl) (pe_op opA_add (pv 1) pe_int))) pss_nil))))
    (pss_cons (ps_tryD 2 rfl rfl sc.nd rfl rfl ⟨by rfl, by decide, .inl B.g_RowError⟩ tk (fun W2 pn2 xe2 tk2 hp2 => (pss_one (ps_expr (pe_callD cspan (hr.mono (by decide)) (by rfl) tk2 (pa_cons (pv 0) pa_nil))))) (fun a2 oe2 cls2 d2 pn2 hz2 hf2 => (pss_one (ps_if (pt_val (pe_callB (cr_isY (List.mem_cons_self) ⟨hz2.1, hz2.2.1⟩ hf2) (by rfl) B.b_isinstance (by decide +kernel) (pa_cons (pv 2) (pa_cons (pe_glob (v := .ref (He.ga K "ZeroPolynomial")) (by rfl) B.g_ZeroPolynomial rfl) pa_nil)))) (pss_one (ps_set (i := 1) sc.nd rfl (Or.inl rfl) (pe_op opA_add (pv 1) pe_int))) pss_nil))))
    (pss_one (ps_ret (pe_cmpR (op_eqD hr.units) (pv 1) pe_int (nomark _)))))))
def t_law_is (K : PySem.W.Frag) (W : WX) : TS :=
  (tRet (tAndV (tCallS (SpF K P_law_is_poly.length fr_law_is_poly) (WE W) (tCons (tVar 0) tNil)) (tOp (rEqD K) (tVar 0) (tCallS (SpF K P_law_pairs.length fr_law_pairs) (WE W) (tCons (tVar 1) tNil)))))
theorem cal_law_is {P : Program} {w : World} {K : PySem.W.Frag} {mg : Str → Option Value} {base : Heap} (A : FunAt K mg "_law_is" s_law_is P_law_is) (B : Bt K mg) (c_law_is_poly : Cal P w K mg base 2 "_law_is_poly" P_law_is_poly fr_law_is_poly) (c_law_pairs : Cal P w K mg base 1 "_law_pairs" P_law_pairs fr_law_pairs)
    (pr : ∀ W ds r, fr_law_is ds r → FnEnd K W (t_law_is K W) (entry N_law_is ds) r) : Cal P w K mg base 3 "_law_is" P_law_is fr_law_is := by
  have sc := sc_law_is
  refine cal_of A sc _ fun f cdv A outer s H E hr => ⟨t_law_is K (wD E), ?_, fun ds r h _ => pr _ ds r h⟩
  have tk : L2N.Takes (cxD P w K mg base N_law_is "_law_is" s_law_is f cdv A outer s H E) (wD E) := L2N.takes_of rfl rfl rfl rfl
  have hp : PassesOwn (model P w) (cxD P w K mg base N_law_is "_law_is" s_law_is f cdv A outer s H E).A (cxD P w K mg base N_law_is "_law_is" s_law_is f cdv A outer s H E).env (cxD P w K mg base N_law_is "_law_is" s_law_is f cdv A outer s H E).xe := passes_of rfl
  exact (pss_one (ps_ret (pe_and (pe_callD c_law_is_poly (hr.mono (by decide)) (by rfl) tk (pa_cons (pv 0) pa_nil)) (pe_one (pe_cmpR (op_eqD hr.units) (pv 0) (pe_callD c_law_pairs (hr.mono (by decide)) (by rfl) tk (pa_cons (pv 1) pa_nil)) (nomark _))))))
def t_law_alone (K : PySem.W.Frag) (W : WX) : TS :=
  (tSeq (tIfS (tOr (tNot (tB (tCallS (SpF K P_law_is.length fr_law_is) (WE W) (tCons (tCallS (SpF K Ppolynomial.length frpolynomial) (WE W) (tCons (tVar 0) tNil)) (tCons (tVar 1) tNil))))) (tNot (tB (tCallS (SpF K P_law_is.length fr_law_is) (WE W) (tCons (tCallS (SpF K Pnormal_polynomial.length frnormal_polynomial) (WE W) (tCons (tVar 0) tNil)) (tCons (tCallS (SpF K P_law_normal.length fr_law_normal) (WE W) (tCons (tVar 1) tNil)) tNil)))))) (tRet (tC (.bl false))) tNext)
    (tSeq (tIfS (tTest (tOp (rEqD K) (tCB rLenD (tCons (tVar 1) tNil)) (tC (.int 0)))) (tRet (tCallS (SpF K P_law_spanless.length fr_law_spanless) (WE W) (tCons (tVar 0) tNil))) tNext)
    (tSeq (tAsg (tCallS (SpF K Pspan.length (frspan K)) (WE W) (tCons (tVar 0) tNil)) (gName 2))
    (tRet (tAndV (tCallS (SpF K P_law_whole.length fr_law_whole) (WE W) (tCons (tVar 2) tNil)) (tOp (rEqD K) (tVar 2) (tOp (rI0 fun i j => .int (i - j)) (tCB (rMax K) (tCons (tCB rListRd (tCons (tVar 1) tNil)) tNil)) (tCB (rMin K) (tCons (tCB rListRd (tCons (tVar 1) tNil)) tNil)))))))))
theorem cal_law_alone {P : Program} {w : World} {K : PySem.W.Frag} {mg : Str → Option Value} {base : Heap} (A : FunAt K mg "_law_alone" s_law_alone P_law_alone) (B : Bt K mg) (c_law_is : Cal P w K mg base 3 "_law_is" P_law_is fr_law_is) (cpolynomial : Cal P w K mg base 2 "polynomial" Ppolynomial frpolynomial) (c_law_normal : Cal P w K mg base 2 "_law_normal" P_law_normal fr_law_normal) (cnormal_polynomial : Cal P w K mg base 3 "normal_polynomial" Pnormal_polynomial frnormal_polynomial) (c_law_spanless : Cal P w K mg base 3 "_law_spanless" P_law_spanless fr_law_spanless) (cspan : Cal P w K mg base 2 "span" Pspan (frspan K)) (c_law_whole : Cal P w K mg base 1 "_law_whole" P_law_whole fr_law_whole)
    (pr : ∀ W ds r, fr_law_alone ds r → FnEnd K W (t_law_alone K W) (entry N_law_alone ds) r) : Cal P w K mg base 4 "_law_alone" P_law_alone fr_law_alone := by
  have sc := sc_law_alone
  refine cal_of A sc _ fun f cdv A outer s H E hr => ⟨t_law_alone K (wD E), ?_, fun ds r h _ => pr _ ds r h⟩
  have tk : L2N.Takes (cxD P w K mg base N_law_alone "_law_alone" s_law_alone f cdv A outer s H E) (wD E) := L2N.takes_of rfl rfl rfl rfl
  have hp : PassesOwn (model P w) (cxD P w K mg base N_law_alone "_law_alone" s_law_alone f cdv A outer s H E).A (cxD P w K mg base N_law_alone "_law_alone" s_law_alone f cdv A outer s H E).env (cxD P w K mg base N_law_alone "_law_alone" s_law_alone f cdv A outer s H E).xe := passes_of rfl
  exact (pss_cons (ps_if ((pw_or (pt_not (pt_val (pe_callD c_law_is (hr.mono (by decide)) (by rfl) tk (pa_cons (pe_callD cpolynomial (hr.mono (by decide)) (by rfl) tk (pa_cons (pv 0) pa_nil)) (pa_cons (pv 1) pa_nil))))) (pw_or1 (pt_not (pt_val (pe_callD c_law_is (hr.mono (by decide)) (by rfl) tk (pa_cons (pe_callD cnormal_polynomial (hr.mono (by decide)) (by rfl) tk (pa_cons (pv 0) pa_nil)) (pa_cons (pe_callD c_law_normal (hr.mono (by decide)) (by rfl) tk (pa_cons (pv 1) pa_nil)) pa_nil)))))))).pt (pss_one (ps_ret pe_bl)) pss_nil)
    (pss_cons (ps_if (pt_cmpR (op_eqD hr.units) (pe_callB cr_lenD (by rfl) B.b_len (by decide +kernel) (pa_cons (pv 1) pa_nil)) pe_int (nomark _)) (pss_one (ps_ret (pe_callD c_law_spanless (hr.mono (by decide)) (by rfl) tk (pa_cons (pv 0) pa_nil)))) pss_nil)
    (pss_cons (ps_set (i := 2) sc.nd rfl (Or.inl rfl) (pe_callD cspan (hr.mono (by decide)) (by rfl) tk (pa_cons (pv 0) pa_nil)))
    (pss_one (ps_ret (pe_and (pe_callD c_law_whole (hr.mono (by decide)) (by rfl) tk (pa_cons (pv 2) pa_nil)) (pe_one (pe_cmpR (op_eqD hr.units) (pv 2) (pe_op op_sub (pe_callB (cr_max rfl) (by rfl) B.b_max (by decide +kernel) (pa_cons (pe_callTy (cr_listRd rfl) (by rfl) B.b_list (by decide +kernel) (pa_cons (pv 1) pa_nil)) pa_nil)) (pe_callB (cr_min rfl) (by rfl) B.b_min (by decide +kernel) (pa_cons (pe_callTy (cr_listRd rfl) (by rfl) B.b_list (by decide +kernel) (pa_cons (pv 1) pa_nil)) pa_nil))) (nomark _)))))))))
def t_law_right (K : PySem.W.Frag) (W : WX) : TS :=
  (tSeq (tIfS (tNot (tB (tCallS (SpF K P_law_is.length fr_law_is) (WE W) (tCons (tCallS (SpF K Ppoly_plus.length frpoly_plus) (WE W) (tCons (tVar 0) (tCons (tVar 1) tNil))) (tCons (tCallS (SpF K P_law_add.length fr_law_add) (WE W) (tCons (tVar 2) (tCons (tVar 3) (tCons (tC (.int 1)) tNil)))) tNil))))) (tRet (tC (.bl false))) tNext)
    (tRet (tCallS (SpF K P_law_is.length fr_law_is) (WE W) (tCons (tCallS (SpF K Ppoly_times.length frpoly_times) (WE W) (tCons (tVar 0) (tCons (tVar 1) tNil))) (tCons (tCallS (SpF K P_law_mul.length fr_law_mul) (WE W) (tCons (tVar 2) (tCons (tVar 3) tNil))) tNil)))))
theorem cal_law_right {P : Program} {w : World} {K : PySem.W.Frag} {mg : Str → Option Value} {base : Heap} (A : FunAt K mg "_law_right" s_law_right P_law_right) (B : Bt K mg) (c_law_is : Cal P w K mg base 3 "_law_is" P_law_is fr_law_is) (c_law_add : Cal P w K mg base 2 "_law_add" P_law_add fr_law_add) (cpoly_plus : Cal P w K mg base 2 "poly_plus" Ppoly_plus frpoly_plus) (c_law_mul : Cal P w K mg base 2 "_law_mul" P_law_mul fr_law_mul) (cpoly_times : Cal P w K mg base 3 "poly_times" Ppoly_times frpoly_times)
    (pr : ∀ W ds r, fr_law_right ds r → FnEnd K W (t_law_right K W) (entry N_law_right ds) r) : Cal P w K mg base 4 "_law_right" P_law_right fr_law_right := by
  have sc := sc_law_right
  refine cal_of A sc _ fun f cdv A outer s H E hr => ⟨t_law_right K (wD E), ?_, fun ds r h _ => pr _ ds r h⟩
  have tk : L2N.Takes (cxD P w K mg base N_law_right "_law_right" s_law_right f cdv A outer s H E) (wD E) := L2N.takes_of rfl rfl rfl rfl
  have hp : PassesOwn (model P w) (cxD P w K mg base N_law_right "_law_right" s_law_right f cdv A outer s H E).A (cxD P w K mg base N_law_right "_law_right" s_law_right f cdv A outer s H E).env (cxD P w K mg base N_law_right "_law_right" s_law_right f cdv A outer s H E).xe := passes_of rfl
  exact (pss_cons (ps_if (pt_not (pt_val (pe_callD c_law_is (hr.mono (by decide)) (by rfl) tk (pa_cons (pe_callD cpoly_plus (hr.mono (by decide)) (by rfl) tk (pa_cons (pv 0) (pa_cons (pv 1) pa_nil))) (pa_cons (pe_callD c_law_add (hr.mono (by decide)) (by rfl) tk (pa_cons (pv 2) (pa_cons (pv 3) (pa_cons pe_int pa_nil)))) pa_nil))))) (pss_one (ps_ret pe_bl)) pss_nil)
    (pss_one (ps_ret (pe_callD c_law_is (hr.mono (by decide)) (by rfl) tk (pa_cons (pe_callD cpoly_times (hr.mono (by decide)) (by rfl) tk (pa_cons (pv 0) (pa_cons (pv 1) pa_nil))) (pa_cons (pe_callD c_law_mul (hr.mono (by decide)) (by rfl) tk (pa_cons (pv 2) (pa_cons (pv 3) pa_nil))) pa_nil))))))
def t_law_next (K : PySem.W.Frag) (W : WX) : TS :=
  (tSeq (tIfS (tTest (tOp (rEqD K) (tVar 0) (tC (.int 0)))) (tRet (tLst (tCons (tCallS (SpF K Ppoly_times.length frpoly_times) (WE W) (tCons (tVar 1) (tCons (tVar 2) tNil))) (tCons (tCallS (SpF K P_law_mul.length fr_law_mul) (WE W) (tCons (tVar 3) (tCons (tVar 4) tNil))) tNil)))) tNext)
    (tSeq (tIfS (tTest (tOp (rEqD K) (tVar 0) (tC (.int 1)))) (tRet (tLst (tCons (tCallS (SpF K Ppoly_plus.length frpoly_plus) (WE W) (tCons (tVar 2) (tCons (tVar 1) tNil))) (tCons (tCallS (SpF K P_law_add.length fr_law_add) (WE W) (tCons (tVar 3) (tCons (tVar 4) (tCons (tC (.int 1)) tNil)))) tNil)))) tNext)
    (tSeq (tIfS (tTest (tOp (rEqD K) (tVar 0) (tC (.int 2)))) (tRet (tLst (tCons (tCallS (SpF K Ppoly_plus.length frpoly_plus) (WE W) (tCons (tVar 1) (tCons (tCallS (SpF K Ppoly_times.length frpoly_times) (WE W) (tCons (tTup (tCons (tTup (tCons (tC (.int 0)) (tCons (tUn (rU fun i => .int (-i)) (tC (.int 1))) tNil))) tNil)) (tCons (tVar 1) tNil))) tNil))) (tCons tDNewK tNil)))) tNext)
    (tSeq (tIfS (tTest (tOp (rEqD K) (tVar 0) (tC (.int 3)))) (tRet (tLst (tCons (tCallS (SpF K Ppoly_plus.length frpoly_plus) (WE W) (tCons (tCallS (SpF K Ppoly_times.length frpoly_times) (WE W) (tCons (tVar 1) (tCons (tTup (tCons (tTup (tCons (tC (.int 3)) (tCons (tC (.int 1)) tNil))) tNil)) tNil))) (tCons (tVar 2) tNil))) (tCons (tCallS (SpF K P_law_add.length fr_law_add) (WE W) (tCons (tCallS (SpF K P_law_mul.length fr_law_mul) (WE W) (tCons (tVar 3) (tCons (tDisp [((tC (.int 3)), (tC (.int 1)))]) tNil))) (tCons (tVar 4) (tCons (tC (.int 1)) tNil)))) tNil)))) tNext)
    (tSeq (tAsg (tCallS (SpF K P_law_add.length fr_law_add) (WE W) (tCons (tVar 3) (tCons (tVar 4) (tCons (tC (.int 1)) tNil)))) (gName 5))
    (tRet (tLst (tCons (tCallS (SpF K Ppoly_times.length frpoly_times) (WE W) (tCons (tCallS (SpF K Ppoly_plus.length frpoly_plus) (WE W) (tCons (tVar 1) (tCons (tVar 2) tNil))) (tCons (tCallS (SpF K Ppoly_plus.length frpoly_plus) (WE W) (tCons (tVar 2) (tCons (tVar 1) tNil))) tNil))) (tCons (tCallS (SpF K P_law_mul.length fr_law_mul) (WE W) (tCons (tVar 5) (tCons (tVar 5) tNil))) tNil)))))))))
theorem cal_law_next {P : Program} {w : World} {K : PySem.W.Frag} {mg : Str → Option Value} {base : Heap} (A : FunAt K mg "_law_next" s_law_next P_law_next) (B : Bt K mg) (c_law_mul : Cal P w K mg base 2 "_law_mul" P_law_mul fr_law_mul) (cpoly_times : Cal P w K mg base 3 "poly_times" Ppoly_times frpoly_times) (c_law_add : Cal P w K mg base 2 "_law_add" P_law_add fr_law_add) (cpoly_plus : Cal P w K mg base 2 "poly_plus" Ppoly_plus frpoly_plus)
    (pr : ∀ W ds r, fr_law_next ds r → FnEnd K W (t_law_next K W) (entry N_law_next ds) r) : Cal P w K mg base 4 "_law_next" P_law_next fr_law_next := by
  have sc := sc_law_next
  refine cal_of A sc _ fun f cdv A outer s H E hr => ⟨t_law_next K (wD E), ?_, fun ds r h _ => pr _ ds r h⟩
  have tk : L2N.Takes (cxD P w K mg base N_law_next "_law_next" s_law_next f cdv A outer s H E) (wD E) := L2N.takes_of rfl rfl rfl rfl
  have hp : PassesOwn (model P w) (cxD P w K mg base N_law_next "_law_next" s_law_next f cdv A outer s H E).A (cxD P w K mg base N_law_next "_law_next" s_law_next f cdv A outer s H E).env (cxD P w K mg base N_law_next "_law_next" s_law_next f cdv A outer s H E).xe := passes_of rfl
  exact (pss_cons (ps_if (pt_cmpR (op_eqD hr.units) (pv 0) pe_int (nomark _)) (pss_one (ps_ret (pe_lst (pa_cons (pe_callD cpoly_times (hr.mono (by decide)) (by rfl) tk (pa_cons (pv 1) (pa_cons (pv 2) pa_nil))) (pa_cons (pe_callD c_law_mul (hr.mono (by decide)) (by rfl) tk (pa_cons (pv 3) (pa_cons (pv 4) pa_nil))) pa_nil))))) pss_nil)
    (pss_cons (ps_if (pt_cmpR (op_eqD hr.units) (pv 0) pe_int (nomark _)) (pss_one (ps_ret (pe_lst (pa_cons (pe_callD cpoly_plus (hr.mono (by decide)) (by rfl) tk (pa_cons (pv 2) (pa_cons (pv 1) pa_nil))) (pa_cons (pe_callD c_law_add (hr.mono (by decide)) (by rfl) tk (pa_cons (pv 3) (pa_cons (pv 4) (pa_cons pe_int pa_nil)))) pa_nil))))) pss_nil)
    (pss_cons (ps_if (pt_cmpR (op_eqD hr.units) (pv 0) pe_int (nomark _)) (pss_one (ps_ret (pe_lst (pa_cons (pe_callD cpoly_plus (hr.mono (by decide)) (by rfl) tk (pa_cons (pv 1) (pa_cons (pe_callD cpoly_times (hr.mono (by decide)) (by rfl) tk (pa_cons (pe_tup (pa_cons (pe_tup (pa_cons pe_int (pa_cons (pe_un un_neg pe_int) pa_nil))) pa_nil)) (pa_cons (pv 1) pa_nil))) pa_nil))) (pa_cons pe_dnewK pa_nil))))) pss_nil)
    (pss_cons (ps_if (pt_cmpR (op_eqD hr.units) (pv 0) pe_int (nomark _)) (pss_one (ps_ret (pe_lst (pa_cons (pe_callD cpoly_plus (hr.mono (by decide)) (by rfl) tk (pa_cons (pe_callD cpoly_times (hr.mono (by decide)) (by rfl) tk (pa_cons (pv 1) (pa_cons (pe_tup (pa_cons (pe_tup (pa_cons pe_int (pa_cons pe_int pa_nil))) pa_nil)) pa_nil))) (pa_cons (pv 2) pa_nil))) (pa_cons (pe_callD c_law_add (hr.mono (by decide)) (by rfl) tk (pa_cons (pe_callD c_law_mul (hr.mono (by decide)) (by rfl) tk (pa_cons (pv 3) (pa_cons (pe_disp (pps_cons pe_int pe_int pps_nil) rfl rfl (by decide) (by decide)) pa_nil))) (pa_cons (pv 4) (pa_cons pe_int pa_nil)))) pa_nil))))) pss_nil)
    (pss_cons (ps_set (i := 5) sc.nd rfl (Or.inl rfl) (pe_callD c_law_add (hr.mono (by decide)) (by rfl) tk (pa_cons (pv 3) (pa_cons (pv 4) (pa_cons pe_int pa_nil)))))
    (pss_one (ps_ret (pe_lst (pa_cons (pe_callD cpoly_times (hr.mono (by decide)) (by rfl) tk (pa_cons (pe_callD cpoly_plus (hr.mono (by decide)) (by rfl) tk (pa_cons (pv 1) (pa_cons (pv 2) pa_nil))) (pa_cons (pe_callD cpoly_plus (hr.mono (by decide)) (by rfl) tk (pa_cons (pv 2) (pa_cons (pv 1) pa_nil))) pa_nil))) (pa_cons (pe_callD c_law_mul (hr.mono (by decide)) (by rfl) tk (pa_cons (pv 5) (pa_cons (pv 5) pa_nil))) pa_nil))))))))))
def tlaw (K : PySem.W.Frag) (W : WX) : TS :=
  (tSeq (tAsg (tOp (rIxA K) (tLst (tCons (tC (.int 3)) (tCons (tC (.int 3)) (tCons (tC (.int 2)) (tCons (tC (.int 2)) (tCons (tC (.int 4)) (tCons (tC (.int 2)) (tCons (tC (.int 3)) (tCons (tC (.int 6)) tNil))))))))) (tOp (rIxA K) (tCallS (SpF K P_law_digits.length fr_law_digits) (WE W) (tCons (tCallS (SpF K P_law_cell.length fr_law_cell) (WE W) (tCons (tVar 0) (tCons (tC (.int 0)) tNil))) (tCons (tLst (tCons (tC (.int 8)) tNil)) tNil))) (tC (.int 0)))) (gName 1))
    (tSeq (tAsg (tTup (tCons (tTup (tCons (tC (.int 0)) (tCons (tC (.int 1)) tNil))) tNil)) (gName 2))
    (tSeq (tAsg (tDisp [((tC (.int 0)), (tC (.int 1)))]) (gName 3))
    (tSeq (tAsg (tLst (tCons (tLst (tCons (tC (.int 0)) (tCons (tC (.int 1)) tNil))) tNil)) (gName 4))
    (tSeq (tAsg (tDisp [((tC (.int 0)), (tC (.int 1)))]) (gName 5))
    (tSeq (tFor (iRng1 (tCons (tVar 1) tNil)) (gName 6) (tSeq (tAsg (tOp (rAddA K) (tLst (tCons (tC (.int 12)) (tCons (tC (.int 41)) (tCons (tC (.int 41)) (tCons (tC (.int 8)) (tCons (tC (.int 12)) (tCons (tC (.int 4)) (tCons (tC (.int 5)) (tCons (tC (.int 9)) (tCons (tC (.int 5)) (tCons (tC (.int 3)) tNil))))))))))) (tOp rMulA (tLst (tCons (tC (.int 41)) (tCons (tC (.int 12)) (tCons (tC (.int 100000)) (tCons (tC (.int 100000)) tNil))))) (tC (.int 40)))) (gName 7))
    (tSeq (tAsg (tCallS (SpF K P_law_digits.length fr_law_digits) (WE W) (tCons (tCallS (SpF K P_law_cell.length fr_law_cell) (WE W) (tCons (tVar 0) (tCons (tOp (rAddA K) (tC (.int 1)) (tVar 6)) tNil))) (tCons (tVar 7) tNil))) (gName 8))
    (tSeq (tAsg (tCallS (SpF K P_law_drawn.length fr_law_drawn) (WE W) (tCons (tVar 8) tNil)) (gName 9))
    (tSeq (tAsg (tCallS (SpF K P_law_poly.length fr_law_poly) (WE W) (tCons (tVar 9) tNil)) (gName 10))
    (tSeq (tAsg (tCallS (SpF K P_law_passed.length fr_law_passed) (WE W) (tCons (tVar 9) (tCons (tOp (rIxA K) (tVar 8) (tC (.int 6))) tNil))) (gName 11))
    (tSeq (tAsg (tCallS (SpF K P_law_passed.length fr_law_passed) (WE W) (tCons (tCallS (SpF K P_law_other_pairs.length fr_law_other_pairs) (WE W) (tCons (tVar 9) (tCons (tOp (rIxA K) (tVar 8) (tC (.int 9))) tNil))) (tCons (tOp (rIxA K) (tVar 8) (tC (.int 8))) tNil))) (gName 12))
    (tSeq (tIfS (tOr (tNot (tB (tCallS (SpF K P_law_alone.length fr_law_alone) (WE W) (tCons (tVar 11) (tCons (tVar 10) tNil))))) (tOr (tNot (tB (tCallS (SpF K P_law_alone.length fr_law_alone) (WE W) (tCons (tVar 12) (tCons (tVar 10) tNil))))) (tNot (tB (tCallS (SpF K P_law_alone.length fr_law_alone) (WE W) (tCons (tVar 2) (tCons (tVar 3) tNil))))))) (tRet (tC (.bl false))) tNext)
    (tSeq (tIfS (tOr (tNot (tB (tCallS (SpF K P_law_right.length fr_law_right) (WE W) (tCons (tVar 11) (tCons (tVar 4) (tCons (tVar 10) (tCons (tVar 5) tNil))))))) (tNot (tB (tCallS (SpF K P_law_right.length fr_law_right) (WE W) (tCons (tVar 12) (tCons (tVar 11) (tCons (tVar 10) (tCons (tVar 10) tNil)))))))) (tRet (tC (.bl false))) tNext)
    (tSeq (tIfS (tOr (tNot (tB (tCallS (SpF K P_law_right.length fr_law_right) (WE W) (tCons (tVar 11) (tCons (tVar 11) (tCons (tVar 10) (tCons (tVar 10) tNil))))))) (tNot (tB (tCallS (SpF K P_law_right.length fr_law_right) (WE W) (tCons (tVar 2) (tCons (tVar 12) (tCons (tVar 3) (tCons (tVar 10) tNil)))))))) (tRet (tC (.bl false))) tNext)
    (tSeq (tIfS (tOr (tNot (tB (tCallS (SpF K P_law_right.length fr_law_right) (WE W) (tCons (tVar 2) (tCons (tVar 11) (tCons (tVar 3) (tCons (tVar 10) tNil))))))) (tNot (tB (tCallS (SpF K P_law_is.length fr_law_is) (WE W) (tCons (tCallS (SpF K Ppoly_plus.length frpoly_plus) (WE W) (tCons (tVar 11) (tCons (tVar 2) tNil))) (tCons (tCallS (SpF K P_law_add.length fr_law_add) (WE W) (tCons (tVar 10) (tCons (tVar 3) (tCons (tC (.int 1)) tNil)))) tNil)))))) (tRet (tC (.bl false))) tNext)
    (tSeq (tIfS (tOr (tNot (tB (tCallS (SpF K P_law_right.length fr_law_right) (WE W) (tCons (tTup (tCons (tTup (tCons (tC (.int 0)) (tCons (tUn (rU fun i => .int (-i)) (tC (.int 1))) tNil))) tNil)) (tCons (tVar 2) (tCons (tDisp [((tC (.int 0)), (tUn (rU fun i => .int (-i)) (tC (.int 1))))]) (tCons (tVar 3) tNil))))))) (tNot (tB (tCallS (SpF K P_law_right.length fr_law_right) (WE W) (tCons (tVar 2) (tCons (tTup (tCons (tTup (tCons (tC (.int 3)) (tCons (tC (.int 1)) tNil))) tNil)) (tCons (tVar 3) (tCons (tDisp [((tC (.int 3)), (tC (.int 1)))]) tNil)))))))) (tRet (tC (.bl false))) tNext)
    (tSeq (tAsg (tCallS (SpF K P_law_next.length fr_law_next) (WE W) (tCons (tOp (rI (fun _ j => 0 < j) fun i j => .int (i % j)) (tCB rIntC (tCons (tOp (rIxA K) (tVar 8) (tC (.int 7))) tNil)) (tC (.int 5))) (tCons (tVar 2) (tCons (tVar 11) (tCons (tVar 3) (tCons (tVar 10) tNil)))))) (gName 13))
    (tSeq (tIfS (tOr (tNot (tB (tCallS (SpF K P_law_is.length fr_law_is) (WE W) (tCons (tOp (rIxA K) (tVar 13) (tC (.int 0))) (tCons (tOp (rIxA K) (tVar 13) (tC (.int 1))) tNil))))) (tTest (tOp (rNeD K) (tVar 11) (tCallS (SpF K P_law_passed.length fr_law_passed) (WE W) (tCons (tVar 9) (tCons (tOp (rIxA K) (tVar 8) (tC (.int 6))) tNil)))))) (tRet (tC (.bl false))) tNext)
    (tSeq (tIfS (tTest (tOp (rNeD K) (tVar 12) (tCallS (SpF K P_law_passed.length fr_law_passed) (WE W) (tCons (tCallS (SpF K P_law_other_pairs.length fr_law_other_pairs) (WE W) (tCons (tVar 9) (tCons (tOp (rIxA K) (tVar 8) (tC (.int 9))) tNil))) (tCons (tOp (rIxA K) (tVar 8) (tC (.int 8))) tNil))))) (tRet (tC (.bl false))) tNext)
    (tSeq (tIfS (tTest (tOp (rI0 fun i j => .bl (decide (i ≤ j))) (tCB rLenD (tCons (tOp (rIxA K) (tVar 13) (tC (.int 1))) tNil)) (tC (.int 120)))) (tSeq (tAsg (tOp (rIxA K) (tVar 13) (tC (.int 0))) (gName 2))
    (tAsg (tOp (rIxA K) (tVar 13) (tC (.int 1))) (gName 3))) tNext)
    (tSeq (tAsg (tVar 11) (gName 4))
    (tAsg (tVar 10) (gName 5)))))))))))))))))))
    (tRet (tCallS (SpF K P_law_alone.length fr_law_alone) (WE W) (tCons (tVar 2) (tCons (tVar 3) tNil))))))))))
theorem fnlaw {f : Addr} {fd : FuncData} {P : Program} {w : World} {K : PySem.W.Frag} {mg : Str → Option Value} {base : Heap} (F : Fun K "law" "law" slaw f fd) (B : Bt K mg) (c_law_digits : Cal P w K mg base 1 "_law_digits" P_law_digits fr_law_digits) (c_law_cell : Cal P w K mg base 1 "_law_cell" P_law_cell fr_law_cell) (c_law_drawn : Cal P w K mg base 2 "_law_drawn" P_law_drawn fr_law_drawn) (c_law_poly : Cal P w K mg base 1 "_law_poly" P_law_poly fr_law_poly) (c_law_passed : Cal P w K mg base 1 "_law_passed" P_law_passed fr_law_passed) (c_law_other_pairs : Cal P w K mg base 1 "_law_other_pairs" P_law_other_pairs fr_law_other_pairs) (c_law_alone : Cal P w K mg base 4 "_law_alone" P_law_alone fr_law_alone) (c_law_right : Cal P w K mg base 4 "_law_right" P_law_right fr_law_right) (c_law_is : Cal P w K mg base 3 "_law_is" P_law_is fr_law_is) (c_law_add : Cal P w K mg base 2 "_law_add" P_law_add fr_law_add) (cpoly_plus : Cal P w K mg base 2 "poly_plus" Ppoly_plus frpoly_plus) (c_law_next : Cal P w K mg base 4 "_law_next" P_law_next fr_law_next)
    (pr : ∀ W ds r, frlaw ds r → FnEnd K W (tlaw K W) (entry Nlaw ds) r) : FnOk P w K mg base (L2N.CX P w) 5 f fd Plaw (SpF K Plaw.length frlaw) := by
  have sc := sclaw
  refine fnD F sc _ fun cdv A outer s H E hr => ⟨tlaw K (wD E), ?_, fun ds r h _ => pr _ ds r h⟩
  have tk : L2N.Takes (cxD P w K mg base Nlaw "law" slaw f cdv A outer s H E) (wD E) := L2N.takes_of rfl rfl rfl rfl
  have hp : PassesOwn (model P w) (cxD P w K mg base Nlaw "law" slaw f cdv A outer s H E).A (cxD P w K mg base Nlaw "law" slaw f cdv A outer s H E).env (cxD P w K mg base Nlaw "law" slaw f cdv A outer s H E).xe := passes_of rfl
  exact (pss_cons (ps_set (i := 1) sc.nd rfl (Or.inl rfl) (pe_ix ix_any (pe_lst (pa_cons pe_int (pa_cons pe_int (pa_cons pe_int (pa_cons pe_int (pa_cons pe_int (pa_cons pe_int (pa_cons pe_int (pa_cons pe_int pa_nil))))))))) (pe_ix ix_any (pe_callD c_law_digits (hr.mono (by decide)) (by rfl) tk (pa_cons (pe_callD c_law_cell (hr.mono (by decide)) (by rfl) tk (pa_cons (pv 0) (pa_cons pe_int pa_nil))) (pa_cons (pe_lst (pa_cons pe_int pa_nil)) pa_nil))) pe_int (fun _ _ => rfl)) (fun _ _ => rfl)))
    (pss_cons (ps_set (i := 2) sc.nd rfl (Or.inl rfl) (pe_tup (pa_cons (pe_tup (pa_cons pe_int (pa_cons pe_int pa_nil))) pa_nil)))
    (pss_cons (ps_set (i := 3) sc.nd rfl (Or.inl rfl) (pe_disp (pps_cons pe_int pe_int pps_nil) rfl rfl (by decide) (by decide)))
    (pss_cons (ps_set (i := 4) sc.nd rfl (Or.inl rfl) (pe_lst (pa_cons (pe_lst (pa_cons pe_int (pa_cons pe_int pa_nil))) pa_nil)))
    (pss_cons (ps_set (i := 5) sc.nd rfl (Or.inl rfl) (pe_disp (pps_cons pe_int pe_int pps_nil) rfl rfl (by decide) (by decide)))
    (pss_cons (ps_for hp rfl (pi_range1 (by rfl) B.b_range (pa_cons (pv 1) pa_nil)) (pg_name (i := 6) sc.nd rfl (Or.inl rfl)) (pss_cons (ps_set (i := 7) sc.nd rfl (Or.inl rfl) (pe_op opA_add (pe_lst (pa_cons pe_int (pa_cons pe_int (pa_cons pe_int (pa_cons pe_int (pa_cons pe_int (pa_cons pe_int (pa_cons pe_int (pa_cons pe_int (pa_cons pe_int (pa_cons pe_int pa_nil))))))))))) (pe_op opA_mul (pe_lst (pa_cons pe_int (pa_cons pe_int (pa_cons pe_int (pa_cons pe_int pa_nil))))) pe_int)))
    (pss_cons (ps_set (i := 8) sc.nd rfl (Or.inl rfl) (pe_callD c_law_digits (hr.mono (by decide)) (by rfl) tk (pa_cons (pe_callD c_law_cell (hr.mono (by decide)) (by rfl) tk (pa_cons (pv 0) (pa_cons (pe_op opA_add pe_int (pv 6)) pa_nil))) (pa_cons (pv 7) pa_nil))))
    (pss_cons (ps_set (i := 9) sc.nd rfl (Or.inl rfl) (pe_callD c_law_drawn (hr.mono (by decide)) (by rfl) tk (pa_cons (pv 8) pa_nil)))
    (pss_cons (ps_set (i := 10) sc.nd rfl (Or.inl rfl) (pe_callD c_law_poly (hr.mono (by decide)) (by rfl) tk (pa_cons (pv 9) pa_nil)))
    (pss_cons (ps_set (i := 11) sc.nd rfl (Or.inl rfl) (pe_callD c_law_passed (hr.mono (by decide)) (by rfl) tk (pa_cons (pv 9) (pa_cons (pe_ix ix_any (pv 8) pe_int (fun _ _ => rfl)) pa_nil))))
    (pss_cons (ps_set (i := 12) sc.nd rfl (Or.inl rfl) (pe_callD c_law_passed (hr.mono (by decide)) (by rfl) tk (pa_cons (pe_callD c_law_other_pairs (hr.mono (by decide)) (by rfl) tk (pa_cons (pv 9) (pa_cons (pe_ix ix_any (pv 8) pe_int (fun _ _ => rfl)) pa_nil))) (pa_cons (pe_ix ix_any (pv 8) pe_int (fun _ _ => rfl)) pa_nil))))
    (pss_cons (ps_if ((pw_or (pt_not (pt_val (pe_callD c_law_alone (hr.mono (by decide)) (by rfl) tk (pa_cons (pv 11) (pa_cons (pv 10) pa_nil))))) (pw_or (pt_not (pt_val (pe_callD c_law_alone (hr.mono (by decide)) (by rfl) tk (pa_cons (pv 12) (pa_cons (pv 10) pa_nil))))) (pw_or1 (pt_not (pt_val (pe_callD c_law_alone (hr.mono (by decide)) (by rfl) tk (pa_cons (pv 2) (pa_cons (pv 3) pa_nil))))))))).pt (pss_one (ps_ret pe_bl)) pss_nil)
    (pss_cons (ps_if ((pw_or (pt_not (pt_val (pe_callD c_law_right (hr.mono (by decide)) (by rfl) tk (pa_cons (pv 11) (pa_cons (pv 4) (pa_cons (pv 10) (pa_cons (pv 5) pa_nil))))))) (pw_or1 (pt_not (pt_val (pe_callD c_law_right (hr.mono (by decide)) (by rfl) tk (pa_cons (pv 12) (pa_cons (pv 11) (pa_cons (pv 10) (pa_cons (pv 10) pa_nil)))))))))).pt (pss_one (ps_ret pe_bl)) pss_nil)
    (pss_cons (ps_if ((pw_or (pt_not (pt_val (pe_callD c_law_right (hr.mono (by decide)) (by rfl) tk (pa_cons (pv 11) (pa_cons (pv 11) (pa_cons (pv 10) (pa_cons (pv 10) pa_nil))))))) (pw_or1 (pt_not (pt_val (pe_callD c_law_right (hr.mono (by decide)) (by rfl) tk (pa_cons (pv 2) (pa_cons (pv 12) (pa_cons (pv 3) (pa_cons (pv 10) pa_nil)))))))))).pt (pss_one (ps_ret pe_bl)) pss_nil)
    (pss_cons (ps_if ((pw_or (pt_not (pt_val (pe_callD c_law_right (hr.mono (by decide)) (by rfl) tk (pa_cons (pv 2) (pa_cons (pv 11) (pa_cons (pv 3) (pa_cons (pv 10) pa_nil))))))) (pw_or1 (pt_not (pt_val (pe_callD c_law_is (hr.mono (by decide)) (by rfl) tk (pa_cons (pe_callD cpoly_plus (hr.mono (by decide)) (by rfl) tk (pa_cons (pv 11) (pa_cons (pv 2) pa_nil))) (pa_cons (pe_callD c_law_add (hr.mono (by decide)) (by rfl) tk (pa_cons (pv 10) (pa_cons (pv 3) (pa_cons pe_int pa_nil)))) pa_nil)))))))).pt (pss_one (ps_ret pe_bl)) pss_nil)
    (pss_cons (ps_if ((pw_or (pt_not (pt_val (pe_callD c_law_right (hr.mono (by decide)) (by rfl) tk (pa_cons (pe_tup (pa_cons (pe_tup (pa_cons pe_int (pa_cons (pe_un un_neg pe_int) pa_nil))) pa_nil)) (pa_cons (pv 2) (pa_cons (pe_disp (pps_cons pe_int (pe_un un_neg pe_int) pps_nil) rfl rfl (by decide) (by decide)) (pa_cons (pv 3) pa_nil))))))) (pw_or1 (pt_not (pt_val (pe_callD c_law_right (hr.mono (by decide)) (by rfl) tk (pa_cons (pv 2) (pa_cons (pe_tup (pa_cons (pe_tup (pa_cons pe_int (pa_cons pe_int pa_nil))) pa_nil)) (pa_cons (pv 3) (pa_cons (pe_disp (pps_cons pe_int pe_int pps_nil) rfl rfl (by decide) (by decide)) pa_nil)))))))))).pt (pss_one (ps_ret pe_bl)) pss_nil)
    (pss_cons (ps_set (i := 13) sc.nd rfl (Or.inl rfl) (pe_callD c_law_next (hr.mono (by decide)) (by rfl) tk (pa_cons (pe_op op_mod (pe_callTy cr_int (by rfl) B.b_int (by decide +kernel) (pa_cons (pe_ix ix_any (pv 8) pe_int (fun _ _ => rfl)) pa_nil)) pe_int) (pa_cons (pv 2) (pa_cons (pv 11) (pa_cons (pv 3) (pa_cons (pv 10) pa_nil)))))))
    (pss_cons (ps_if ((pw_or (pt_not (pt_val (pe_callD c_law_is (hr.mono (by decide)) (by rfl) tk (pa_cons (pe_ix ix_any (pv 13) pe_int (fun _ _ => rfl)) (pa_cons (pe_ix ix_any (pv 13) pe_int (fun _ _ => rfl)) pa_nil))))) (pw_or1 (pt_cmpR (op_neD hr.units) (pv 11) (pe_callD c_law_passed (hr.mono (by decide)) (by rfl) tk (pa_cons (pv 9) (pa_cons (pe_ix ix_any (pv 8) pe_int (fun _ _ => rfl)) pa_nil))) (nomark _))))).pt (pss_one (ps_ret pe_bl)) pss_nil)
    (pss_cons (ps_if (pt_cmpR (op_neD hr.units) (pv 12) (pe_callD c_law_passed (hr.mono (by decide)) (by rfl) tk (pa_cons (pe_callD c_law_other_pairs (hr.mono (by decide)) (by rfl) tk (pa_cons (pv 9) (pa_cons (pe_ix ix_any (pv 8) pe_int (fun _ _ => rfl)) pa_nil))) (pa_cons (pe_ix ix_any (pv 8) pe_int (fun _ _ => rfl)) pa_nil))) (nomark _)) (pss_one (ps_ret pe_bl)) pss_nil)
    (pss_cons (ps_if (pt_cmpR op_le (pe_callB cr_lenD (by rfl) B.b_len (by decide +kernel) (pa_cons (pe_ix ix_any (pv 13) pe_int (fun _ _ => rfl)) pa_nil)) pe_int (nomark _)) (pss_cons (ps_set (i := 2) sc.nd rfl (Or.inl rfl) (pe_ix ix_any (pv 13) pe_int (fun _ _ => rfl)))
    (pss_one (ps_set (i := 3) sc.nd rfl (Or.inl rfl) (pe_ix ix_any (pv 13) pe_int (fun _ _ => rfl))))) pss_nil)
    (pss_cons (ps_set (i := 4) sc.nd rfl (Or.inl rfl) (pv 11))
    (pss_one (ps_set (i := 5) sc.nd rfl (Or.inl rfl) (pv 10))))))))))))))))))))
    (pss_one (ps_ret (pe_callD c_law_alone (hr.mono (by decide)) (by rfl) tk (pa_cons (pv 2) (pa_cons (pv 3) pa_nil)))))))))))
end Go
set_option Elab.async false
set_option linter.all false
set_option maxRecDepth 100000
set_option maxHeartbeats 1000000
namespace Go
open PySem PySem.Spec PyProof.Rows L2 DL
theorem pr_law_whole {K : PySem.W.Frag} (W : WX) (ds : List D) (r : Res) (h : fr_law_whole ds r) : FnEnd K W (t_law_whole K W) (entry N_law_whole ds) r := by
  obtain ⟨d, hd, rfl, rfl⟩ := h
  left
  have h1 : EvD K (tVar 0) (entry N_law_whole [d]) d := ev_var rfl
  refine sv_retE (ev_andV (ev_isi h1 hd (kit_int hd)) fun _ => ev_notV (ev_isi h1 hd (kit_bool hd))) ?_
  cases d <;> rfl
theorem pr_law_cell {K : PySem.W.Frag} (W : WX) (ds : List D) (r : Res) (h : fr_law_cell ds r) : FnEnd K W (t_law_cell K W) (entry N_law_cell ds) r := by
  obtain ⟨ns, k, hk, rfl, rfl⟩ := h
  left
  show SvD K W (t_law_cell K W) [.d (.scr ns), .d (.int (k : Int)), .no, .no] _
  have h0 : EvSL K (tVar 0) [.d (.scr ns), .d (.int (k : Int)), .no, .no] (ns.map D.int) := sl_scr (ev_var rfl)
  have hc : ∀ b, decide ((k : Int) < ((ns.map D.int).length : Int)) = b → TvD K (tTest (tOp (rI0 fun i j => .bl (decide (i < j))) (tVar 1) (tCB (rLenA K) (tCons (tVar 0) tNil)))) [.d (.scr ns), .d (.int (k : Int)), .no, .no] b := fun b e =>
    tv_eq (tv_cmpI (g := fun i j => decide (i < j)) (ev_var rfl) (ev_lenL h0)) e
  unfold t_law_cell
  rw [List.length_map] at hc
  by_cases hlt : k < ns.length
  · refine sv_stop (sv_ifT (hc true (decide_eq_true (by omega))) (sv_ret ?_))
    have e1 : ns[k]? = some ns[k] := List.getElem?_eq_getElem hlt
    have e2 : cellM ns k = ns[k] := by unfold cellM; rw [e1]
    rw [e2]
    refine ev_ixL (i := (k : Int)) h0 (ev_var rfl) (atI_nat ?_)
    rw [List.getElem?_map, e1]; rfl
  · refine sv_seq (sv_ifF (hc false (decide_eq_false (by omega))) sv_next) ?_
    refine sv_seq (sv_asg ev_int) ?_
    have e1 : ns[k]? = none := List.getElem?_eq_none (by omega)
    have e2 : cellM ns k = (seedM ns + 7) * ((k : Int) + 3) * 69621 % 2147483647 := by unfold cellM; rw [e1]
    have loop := run_fold (step := Turn1 K W (gName 3) (tAsg (tOp (rI (fun _ j => 0 < j) fun i j => .int (i % j)) (tCB rIntC (tCons (tOp (rAddA K) (tOp rMulA (tVar 2) (tC (.int 31))) (tOp (rI (fun _ j => 0 < j) fun i j => .int (i % j)) (tCB rIntC (tCons (tVar 3) tNil)) (tC (.int 1000003)))) tNil)) (tC (.int 1000003))) (gName 2)))
      (fun s : Int => [.d (.scr ns), .d (.int (k : Int)), .d (.int s), .no]) (fun s d => match d with | .int c => (s * 31 + c % 1000003) % 1000003 | _ => s) (fun s => 0 ≤ s ∧ s < 1000003) (ns.map D.int) 17 (fun s d hd hs => by
        obtain ⟨c, _, rfl⟩ := List.mem_map.mp hd
        refine ⟨t1_name (sv_nx (sv_asg (ev_modI (ev_intC (ev_addI (ev_mulI (ev_var rfl) ev_int (mul_s (by omega) (by omega))) (ev_modI (ev_intC (ev_var rfl)) ev_int (by decide)))) ev_int (by decide))) [3] rfl), ?_⟩
        show 0 ≤ (s * 31 + c % 1000003) % 1000003 ∧ _
        constructor
        · exact Int.emod_nonneg _ (by decide)
        · exact Int.emod_lt_of_pos _ (by decide)) (by omega)
    have fold : ∀ (l : List Int) (s : Int), (l.map D.int).foldl (fun s d => match d with | .int c => (s * 31 + c % 1000003) % 1000003 | _ => s) s = l.foldl (fun s c => (s * 31 + c % 1000003) % 1000003) s := by
      intro l
      induction l with
      | nil => intro s; rfl
      | cons c l ih => intro s; exact ih _
    rw [fold] at loop
    refine sv_seq (sv_for (wi_seqL (wi_scr (ev_var rfl))) loop) ?_
    have b := seed_bound ns
    refine sv_retE (ev_modI (ev_intC (ev_mulI (ev_mulI (ev_addI (ev_var rfl) ev_int) (ev_addI (ev_var rfl) ev_int) (mul_s ?_ ?_)) ev_int ?_)) ev_int (by decide)) ?_
    · show _ < seedM ns + 7 ∧ seedM ns + 7 < _; omega
    · omega
    · refine mul_ok 90 64 ?_ (by decide) (by decide)
      have h1 : (seedM ns + 7).natAbs < 2 ^ 40 := by omega
      have h2 : ((k : Int) + 3).natAbs < 2 ^ 40 := by omega
      have h3 := wide_lt h1 h2
      exact Nat.lt_trans h3 (by decide)
    · rw [e2]; rfl
/-! ### digits -/
def encA (c : Int) (ss done : List Int) (rest : Int) : List Sl := [.d (.int c), .d (.lst (ss.map D.int)), .ol (done.map D.int), .d (.int rest), .no, .no, .no, .no]
abbrev tbA (K : PySem.W.Frag) : TS := (tSeq (tDrop (tBM K "list" rAppend (tVar 2) (tCons (tOp (rI (fun _ j => 0 < j) fun i j => .int (i % j)) (tCB rIntC (tCons (tVar 3) tNil)) (tVar 4)) tNil)))
    (tAsg (tOp rDivA (tCB rIntC (tCons (tVar 3) tNil)) (tVar 4)) (gName 3)))
theorem run_digA {K : PySem.W.Frag} {W : WX} (c : Int) (ss : List Int) : ∀ (rs done : List Int) (rest : Int), (∀ s ∈ rs, 0 < s ∧ s < 1073741824) → done.length + rs.length ≤ 5000 →
    Run (Turn1 K W (gName 4) (tbA K)) (rs.map D.int) (encA c ss done rest) (.nx (encA c ss (done ++ digA rest rs) (rs.foldl (· / ·) rest)))
  | [], done, rest, _, _ => by
    have e : done ++ digA rest [] = done := by simp [digA]
    rw [e]; exact .nil
  | s :: rs, done, rest, h, hl => by
    have hs := h s List.mem_cons_self
    have ih := run_digA (K := K) (W := W) c ss rs (done ++ [rest % s]) (rest / s) (fun x hx => h x (List.mem_cons_of_mem _ hx)) (by simp at hl ⊢; omega)
    have e : done ++ digA rest (s :: rs) = done ++ [rest % s] ++ digA (rest / s) rs := by simp [digA]
    rw [e, List.foldl_cons, List.map_cons]
    refine .go (t1_name (sv_nx (sv_seq (sv_app (xs := done.map D.int) rfl (ev_modI (ev_intC (ev_var rfl)) (ev_var rfl) hs.1) ?_) (sv_asg (ev_divI (ev_intC (ev_var rfl)) (ev_var rfl) hs))) [4] ?_)) ih
    · rw [List.length_map]; simp at hl; omega
    · simp [wipeS, encA]
abbrev tbB (K : PySem.W.Frag) : TS := (tSeq (tAsg (tOp (rI (fun _ j => 0 < j) fun i j => .int (i % j)) (tCB rIntC (tCons (tOp (rAddA K) (tOp (rAddA K) (tOp rMulA (tVar 5) (tC (.int 48271))) (tOp rMulA (tC (.int 974711)) (tVar 6))) (tC (.int 12345))) tNil)) (tC (.int 2147483647))) (gName 5))
    (tSeq (tAsg (tOp (rI (fun _ j => 0 < j) fun i j => .int (i % j)) (tCB rIntC (tCons (tOp rMulA (tVar 5) (tOp (rAddA K) (tOp rDivA (tVar 5) (tC (.int 65537))) (tC (.int 3)))) tNil)) (tC (.int 2147483629))) (gName 7))
    (tDrop (tBM K "list" rAppend (tVar 2) (tCons (tOp (rI (fun _ j => 0 < j) fun i j => .int (i % j)) (tOp rDivA (tVar 7) (tC (.int 19))) (tOp (rIxA K) (tVar 1) (tVar 6))) tNil)))))
def encB (c : Int) (ss : List Int) (rest seed : Int) (full : List Int) (k : Nat) : List Sl := [.d (.int c), .d (.lst (ss.map D.int)), .ol ((full.take k).map D.int), .d (.int rest), .no, .d (.int (seedIt seed 0 k)), .no, .no]
theorem pr_law_digits {K : PySem.W.Frag} (W : WX) (ds : List D) (r : Res) (h : fr_law_digits ds r) : FnEnd K W (t_law_digits K W) (entry N_law_digits ds) r := by
  obtain ⟨c, ss, hs, hl, rfl, rfl⟩ := h
  left
  show SvD K W (t_law_digits K W) [.d (.int c), .d (.lst (ss.map D.int)), .no, .no, .no, .no, .no, .no] _
  unfold t_law_digits
  refine sv_seq (sv_asgL (evl_lst (K := K) av_nil (by decide))) (sv_seq (sv_asg (ev_intC (ev_var rfl))) ?_)
  have big : (10 : Int) ^ (18 : Int).toNat = 1000000000000000000 := by decide
  have hc : ∀ b, decide ((1000000000000000000 : Int) ≤ c) = b → TvD K (tTest (tOp (rI0 fun i j => .bl (decide (j ≤ i))) (tVar 3) (tOp (rI CPow fun i j => .int (i ^ j.toNat)) (tC (.int 10)) (tC (.int 18))))) [.d (.int c), .d (.lst (ss.map D.int)), .ol [], .d (.int c), .no, .no, .no, .no] b := fun b e =>
    tv_eq (tv_cmpI (g := fun i j => decide (j ≤ i)) (ev_var rfl) (ev_eq (ev_powI ev_int ev_int ⟨by decide, by decide, by decide⟩) (by rw [big]))) e
  by_cases hb : (1000000000000000000 : Int) ≤ c
  · refine sv_stop (sv_ifT (hc true (decide_eq_true hb)) ?_)
    have e1 : digM c ss = digA (c - 1000000000000000000) ss := by unfold digM; rw [if_pos hb]
    refine sv_seq (sv_asg (ev_eq (ev_subI (ev_var rfl) (ev_powI ev_int ev_int ⟨by decide, by decide, by decide⟩)) (by rw [big]))) ?_
    refine sv_seq (sv_for (wi_seqL (wi_list (ev_var rfl))) (run_digA (K := K) (W := W) c ss ss [] (c - 1000000000000000000) hs (by simp; omega))) ?_
    refine sv_frz 2 rfl rfl (sv_retE (ev_var rfl) ?_)
    rw [e1]; rfl
  · refine sv_seq (sv_ifF (hc false (decide_eq_false hb)) sv_next) ?_
    have e1 : digM c ss = digB (c % 2147483629) 0 ss := by unfold digM; rw [if_neg hb]
    refine sv_seq (sv_asg (ev_modI (ev_intC (ev_var rfl)) ev_int (by decide))) ?_
    have b0 : 0 ≤ c % 2147483629 ∧ c % 2147483629 < 2147483647 := by omega
    generalize c % 2147483629 = seed at b0 e1
    have hn : (rngD 0 ((ss.map D.int).length : Int).toNat).length = ss.length := by rw [rngD_length]; simp
    have run := run_all (step := Turn1 K W (gName 6) (tbB K)) (encB c ss c seed (digB seed 0 ss)) (rngD 0 ((ss.map D.int).length : Int).toNat) fun k d hd => by
      have hk : k < ss.length := by rw [← hn]; exact (List.getElem?_eq_some_iff.mp hd).1
      have e2 := rngD_get hd
      rw [Int.zero_add] at e2
      subst e2
      have bs := seedIt_bound b0 0 k
      have bn := nextS_bound (seedIt seed 0 k) k
      have es : ss[k]? = some ss[k] := List.getElem?_eq_getElem hk
      have hp := hs ss[k] (List.getElem_mem hk)
      have ef := digB_get ss seed 0 k
      rw [es] at ef
      have ei : seedIt seed 0 (k + 1) = nextS (seedIt seed 0 k) k := by show nextS _ (0 + k) = _; rw [Nat.zero_add]
      refine t1_name (sv_nx (sv_seq (sv_asg (ev_modI (ev_intC (ev_addI (ev_addI (ev_mulI (ev_var rfl) ev_int (mul_s (by omega) (by omega))) (ev_mulI ev_int (ev_var rfl) (mul_s (by omega) (by omega)))) ev_int)) ev_int (by decide))) (sv_seq (sv_asg (ev_modI (ev_intC (ev_mulI (ev_var rfl) (ev_addI (ev_divI (ev_var rfl) ev_int ⟨by decide, by decide⟩) ev_int) ?_)) ev_int (by decide))) (sv_app (xs := ((digB seed 0 ss).take k).map D.int) rfl (ev_modI (ev_divI (ev_var rfl) ev_int ⟨by decide, by decide⟩) (ev_ixL (i := (k : Int)) (d := .int ss[k]) (sl_d (ev_var rfl)) (ev_var rfl) (atI_nat (by rw [List.getElem?_map, es]; rfl))) hp.1) ?_))) [6, 7] ?_)
      · have bn' : 0 ≤ (seedIt seed 0 k * 48271 + 974711 * (k : Int) + 12345) % 2147483647 ∧ (seedIt seed 0 k * 48271 + 974711 * (k : Int) + 12345) % 2147483647 < 2147483647 := bn
        exact mul_s (by omega) (by omega)
      · rw [List.length_map, List.length_take]; omega
      · have et : (digB seed 0 ss).take (k + 1) = (digB seed 0 ss).take k ++ [drawS (nextS (seedIt seed 0 k) k) / 19 % ss[k]] := by
          rw [List.take_add_one, ef, ei]; rfl
        unfold encB
        rw [et, ei, List.map_append]; rfl
    have h0 : encB c ss c seed (digB seed 0 ss) 0 = [.d (.int c), .d (.lst (ss.map D.int)), .ol [], .d (.int c), .no, .d (.int seed), .no, .no] := rfl
    rw [h0, hn] at run
    refine sv_seq (sv_for (wi_rng1 (av_cons (ev_lenL (sl_d (ev_var rfl))) av_nil) (by omega) (by rw [List.length_map]; omega)) run) ?_
    refine sv_frz 2 rfl rfl (sv_retE (ev_var rfl) ?_)
    have ee : (digB seed 0 ss).take ss.length = digB seed 0 ss := by rw [← digB_len seed 0 ss, List.take_length]
    show D.lst (((digB seed 0 ss).take ss.length).map D.int) = _
    rw [ee, e1]
end Go
set_option Elab.async false
set_option linter.all false
set_option maxRecDepth 100000
set_option maxHeartbeats 1000000
namespace Go
open PySem PySem.Spec PyProof.Rows L2 DL
theorem kk_inj {a b : Kk} (h : kk a = kk b) : a = b := by
  unfold kk at h
  injection h with h1 h2
  injection h2 with h2 _
  injection h1 with h1
  injection h2 with h2
  exact Prod.ext h1 h2
def encT (a : List (Kk × Int)) : List (List Key × D) := a.map fun p => (kk p.1, .int p.2)
theorem gget_enc (k : Kk) : ∀ a : List (Kk × Int), gget (encT a) (kk k) = (gget a k).map D.int
  | [] => rfl
  | p :: r => by
    have ih := gget_enc k r
    show gget ((kk p.1, D.int p.2) :: encT r) (kk k) = _
    unfold gget
    by_cases e : p.1 = k
    · rw [if_pos (by rw [e]), if_pos e]; rfl
    · rw [if_neg fun z => e (kk_inj z), if_neg e, ih]
theorem gput_enc (k : Kk) (v : Int) : ∀ a : List (Kk × Int), gput (encT a) (kk k) (.int v) = encT (gput a k v)
  | [] => rfl
  | p :: r => by
    have ih := gput_enc k v r
    show gput ((kk p.1, D.int p.2) :: encT r) (kk k) (.int v) = _
    unfold gput
    by_cases e : p.1 = k
    · rw [if_pos (by rw [e]), if_pos e]; rfl
    · rw [if_neg fun z => e (kk_inj z), if_neg e, ih]; rfl
theorem get2_enc (k : Kk) (a : List (Kk × Int)) : (gget (encT a) (kk k)).getD (.int 0) = D.int ((gget a k).getD 0) := by
  rw [gget_enc]; cases gget a k <;> rfl
def tupK (k : Kk) : D := .tup [.str k.1, .int k.2]
theorem tupK_kD (k : Kk) : D.tup ((kk k).map kD) = tupK k := rfl
theorem enc_keys (a : List (Kk × Int)) : ((encT a).map fun kv => D.tup (kv.1.map kD)) = (a.map (·.1)).map tupK := by
  unfold encT; rw [List.map_map, List.map_map]; rfl
theorem sortD_keys (l : List Kk) : sortD (l.map tupK) = (sortK l).map tupK := by
  unfold sortD sortK
  rw [List.map_mergeSort (s := PySem.W.dataLe false D.py)]
  intro a _ b _; rfl
theorem sortOk_keys {l : List Kk} (h : l.length ≤ 16777216) : SortOk (l.map pyK) where
  al := fun d hd e he => by
    obtain ⟨a, _, rfl⟩ := List.mem_map.mp hd
    obtain ⟨b, _, rfl⟩ := List.mem_map.mp he
    rfl
  so := .inl fun d hd => by
    obtain ⟨a, _, rfl⟩ := List.mem_map.mp hd
    exact ⟨_, _, rfl⟩
  dp := fun d hd => by
    obtain ⟨a, _, rfl⟩ := List.mem_map.mp hd
    exact (by decide : (PyData.tuple [.str "", .int 0]).depth ≤ 8)
  sz := by rw [List.length_map]; exact h
theorem enc_pyK (a : List (Kk × Int)) : ((encT a).map fun kv => PyData.tuple (kv.1.map keyPy)) = (a.map (·.1)).map pyK := by
  unfold encT; rw [List.map_map, List.map_map]; rfl
theorem gput_len_lt {a : List (Kk × Int)} {n : Nat} (h : a.length < n) : (encT a).length < n := by unfold encT; rw [List.length_map]; exact h
section
variable {K : PySem.W.Frag} {W : WX}
def encO (d0 : D) (a : List (Kk × Int)) : List Sl := [.d d0, .ot (encT a), .no, .no, .no, .no]
abbrev gO (K : PySem.W.Frag) : TG := gSeqA K 3 (gCons (gName 2) (gCons (gName 3) (gCons (gName 4) gNil)))
abbrev tbO (K : PySem.W.Frag) : TS := sDPut (tVar 1) (tTup (tCons (tVar 2) (tCons (tVar 3) tNil))) (tOp (rAddA K) (tDGet2 (tVar 1) (tTup (tCons (tVar 2) (tCons (tVar 3) tNil))) (tC (.int 0))) (tVar 4))
theorem body_ordered (d0 : D) (a : List (Kk × Int)) (t : Tm) (hl : a.length < 16777216) : SvD K W (tbO K) [.d d0, .ot (encT a), .d (.str t.1), .d (.int t.2.1), .d (.int t.2.2), .no] (.nx (encO d0 (stepM a t))) := by
  have hk : EvD K (tTup (tCons (tVar 2) (tCons (tVar 3) tNil))) [.d d0, .ot (encT a), .d (.str t.1), .d (.int t.2.1), .d (.int t.2.2), .no] (.tup ((kk (Tm.k t)).map kD)) := ev_tup (av_cons (ev_var rfl) (av_cons (ev_var rfl) av_nil)) le2
  refine sv_nx (sv_putT (k := kk (Tm.k t)) (d := .int ((gget a (Tm.k t)).getD 0 + t.2.2)) rfl (ev_addI (ev_eq (ev_get2T (dt_own rfl) hk ev_int) (get2_enc _ _)) (ev_var rfl)) hk (gput_len_lt hl)) [2, 3, 4] ?_
  rw [gput_enc]; rfl
theorem run_ordered (d0 : D) : ∀ {ds : List D} {ts : List Tm}, IsTms ds ts → ∀ a : List (Kk × Int), a.length + ts.length ≤ 4000000 → Run (Turn1 K W (gO K) (tbO K)) ds (encO d0 a) (.nx (encO d0 (accM a ts)))
  | _, _, .nil, a, _ => .nil
  | _, _, .lst (t := t) (ts := ts) h, a, hl => by
    have hs : (stepM a t).length ≤ a.length + 1 := gput_length _ _ a
    rw [List.length_cons] at hl
    exact .go ⟨_, _, tg_seqL (tgs_cons tg_name (tgs_cons tg_name (tgs_cons tg_name tgs_nil))) rfl, body_ordered d0 a t (by omega)⟩ (run_ordered d0 h (stepM a t) (by omega))
  | _, _, .tup (t := t) (ts := ts) h, a, hl => by
    have hs : (stepM a t).length ≤ a.length + 1 := gput_length _ _ a
    rw [List.length_cons] at hl
    exact .go ⟨_, _, tg_seqT (tgs_cons tg_name (tgs_cons tg_name (tgs_cons tg_name tgs_nil))) rfl, body_ordered d0 a t (by omega)⟩ (run_ordered d0 h (stepM a t) (by omega))
/-- what a loop over terms goes over -/
theorem wi_terms {te : TE} {ρ : List Sl} {d : D} {ds : List D} (h : EvD K te ρ d) (hd : d = .lst ds ∨ d = .tup ds) : WiD K (iSeq K te) ρ ds := by
  rcases hd with rfl | rfl
  · exact wi_seqL (wi_list h)
  · exact wi_seqT (wi_tup h)
def fO (a : List (Kk × Int)) : D → Option D
  | .tup [.str r, .int s] => if (gget a (r, s)).getD 0 ≠ 0 then some (tT (r, s, (gget a (r, s)).getD 0)) else none
  | _ => none
theorem fO_all (a : List (Kk × Int)) : ((sortK (a.map (·.1))).map tupK).filterMap (fO a) = (ordOf a).map tT := by
  unfold ordOf
  rw [List.filterMap_map, List.map_filterMap]
  congr 1
  funext k
  show (if (gget a (k.1, k.2)).getD 0 ≠ 0 then some (tT (k.1, k.2, (gget a (k.1, k.2)).getD 0)) else none) = _
  by_cases z : (gget a k).getD 0 ≠ 0
  · rw [if_pos z, if_pos z]; rfl
  · rw [if_neg z, if_neg z]; rfl
theorem isTms_len : ∀ {ds : List D} {ts : List Tm}, IsTms ds ts → ds.length = ts.length
  | _, _, .nil => rfl
  | _, _, .lst h => congrArg (· + 1) (isTms_len h)
  | _, _, .tup h => congrArg (· + 1) (isTms_len h)
theorem len_sortK (l : List Kk) : (sortK l).length = l.length := List.length_mergeSort _
end
end Go
set_option Elab.async false
set_option linter.all false
set_option maxRecDepth 100000
set_option maxHeartbeats 1000000
namespace Go
open PySem PySem.Spec PyProof.Rows L2 DL
/-! ### data that can be compared -/
theorem sh_tT {t : Tm} (h : PyData.strOk t.1 = true) : Sh 2 (tT t) := Sh.tup fun d hd => by
  simp at hd; rcases hd with rfl | rfl | rfl
  · exact .str h
  · exact .int _
  · exact .int _
theorem sh_tL {t : Tm} (h : PyData.strOk t.1 = true) : Sh 2 (tL t) := Sh.lst fun d hd => by
  simp at hd; rcases hd with rfl | rfl | rfl
  · exact .str h
  · exact .int _
  · exact .int _
theorem sh_pT (p : Pr) : Sh 2 (pT p) := Sh.tup fun d hd => by
  simp at hd; rcases hd with rfl | rfl
  · exact .int _
  · exact .int _
theorem sh_pL (p : Pr) : Sh 2 (pL p) := Sh.lst fun d hd => by
  simp at hd; rcases hd with rfl | rfl
  · exact .int _
  · exact .int _
theorem sh_eTup {L : List Tm} (h : NOk L) : Sh 3 (eTup L) := Sh.tup fun d hd => by
  obtain ⟨t, ht, rfl⟩ := List.mem_map.mp hd
  exact sh_tT (h t ht)
theorem sh_ePoly (P : List Pr) : Sh 3 (ePoly P) := Sh.tup fun d hd => by
  obtain ⟨t, _, rfl⟩ := List.mem_map.mp hd
  exact sh_pT t
theorem sh_tms : ∀ {ds : List D} {ts : List Tm}, IsTms ds ts → NOk ts → ∀ d ∈ ds, Sh 2 d
  | _, _, .nil, _, d, hd => nomatch hd
  | _, _, .lst h, ok, d, hd => by
    rcases List.mem_cons.mp hd with rfl | hd
    · exact sh_tL (ok _ List.mem_cons_self)
    · exact sh_tms h (fun t ht => ok t (List.mem_cons_of_mem _ ht)) d hd
  | _, _, .tup h, ok, d, hd => by
    rcases List.mem_cons.mp hd with rfl | hd
    · exact sh_tT (ok _ List.mem_cons_self)
    · exact sh_tms h (fun t ht => ok t (List.mem_cons_of_mem _ ht)) d hd
theorem sh_prs : ∀ {ds : List D} {ps : List Pr}, IsPrs ds ps → ∀ d ∈ ds, Sh 2 d
  | _, _, .nil, d, hd => nomatch hd
  | _, _, .lst h, d, hd => by
    rcases List.mem_cons.mp hd with rfl | hd
    · exact sh_pL _
    · exact sh_prs h d hd
  | _, _, .tup h, d, hd => by
    rcases List.mem_cons.mp hd with rfl | hd
    · exact sh_pT _
    · exact sh_prs h d hd
theorem sh_terms {d : D} {ts : List Tm} (h : IsTerms d ts) (ok : NOk ts) : Sh 3 d := by
  obtain ⟨ds, h1, rfl | rfl⟩ := h
  · exact Sh.lst (sh_tms h1 ok)
  · exact Sh.tup (sh_tms h1 ok)
theorem sh_pairs {d : D} {ps : List Pr} (h : IsPairs d ps) : Sh 3 d := by
  obtain ⟨ds, h1, rfl | rfl⟩ := h
  · exact Sh.lst (sh_prs h1)
  · exact Sh.tup (sh_prs h1)
theorem nok_ord {ts : List Tm} (h : NOk ts) : NOk (ordM ts) := fun t ht => by
  by_cases z : ∃ u ∈ ts, u.k = t.k
  · obtain ⟨u, hu, e⟩ := z
    have e' : (u.1, u.2.1) = (t.1, t.2.1) := e
    rw [← (Prod.mk.inj e').1]
    exact h u hu
  · have := ordM_mem.mp ht
    rw [cf_zero fun u hu e => z ⟨u, hu, e⟩] at this
    exact absurd this.1.symm this.2
theorem nok_append {a b : List Tm} (ha : NOk a) (hb : NOk b) : NOk (a ++ b) := fun t ht => by
  rcases List.mem_append.mp ht with h | h
  · exact ha t h
  · exact hb t h
theorem nok_mul {ps : List Pr} {ts : List Tm} (h : NOk ts) : NOk (mulM ps ts) := fun t ht => by
  obtain ⟨p, _, h1⟩ := List.mem_flatMap.mp ht
  obtain ⟨u, hu, rfl⟩ := List.mem_map.mp h1
  exact h u hu
theorem nok_mov {b : Int} {ts : List Tm} (h : NOk ts) : NOk (movM b ts) := fun t ht => by
  obtain ⟨u, hu, rfl⟩ := List.mem_map.mp ht
  exact h u hu
/-! ### lengths -/
theorem len_ord (ts : List Tm) : (ordM ts).length ≤ ts.length := by
  unfold ordM ordOf
  refine Nat.le_trans (List.length_filterMap_le _ _) ?_
  rw [len_sortK, List.length_map]
  have := accM_len ts []
  simpa using this
theorem len_mul (ps : List Pr) (ts : List Tm) : (mulM ps ts).length = ps.length * ts.length := by
  unfold mulM
  induction ps with
  | nil => simp
  | cons p ps ih => rw [List.flatMap_cons, List.length_append, ih, List.length_map, List.length_cons, Nat.add_mul]; omega
theorem len_mov (b : Int) (ts : List Tm) : (movM b ts).length = ts.length := List.length_map _
section
variable {K : PySem.W.Frag} {W : WX} {ρ : List Sl} {te : TE} {d : D}
theorem tv_yes : TvD K tYes ρ true := fun F0 H0 F H σ R Q q => q F H (.refl R.ex)
theorem isTms_append : ∀ {ds es : List D} {a b : List Tm}, IsTms ds a → IsTms es b → IsTms (ds ++ es) (a ++ b)
  | _, _, _, _, .nil, h => h
  | _, _, _, _, .lst g, h => .lst (isTms_append g h)
  | _, _, _, _, .tup g, h => .tup (isTms_append g h)
theorem av_starA {t : TA} {xs ds : List D} (h : EvD K te ρ d) (hd : d = .lst xs ∨ d = .tup xs) (hr : AvD K t ρ ds) : AvD K (StX.tStar K te t) ρ (xs ++ ds) := by
  rcases hd with rfl | rfl
  · exact av_starL (sl_d h) hr
  · exact av_starT (st_d h) hr
theorem isPrs_len : ∀ {ds : List D} {ts : List Pr}, IsPrs ds ts → ds.length = ts.length
  | _, _, .nil => rfl
  | _, _, .lst h => congrArg (· + 1) (isPrs_len h)
  | _, _, .tup h => congrArg (· + 1) (isPrs_len h)
/-- an item that is a term -/
theorem isTms_mem : ∀ {ds : List D} {ts : List Tm}, IsTms ds ts → ∀ e ∈ ds, ∃ t ∈ ts, e = tL t ∨ e = tT t
  | _, _, .nil, e, he => nomatch he
  | _, _, .lst h, e, he => by
    rcases List.mem_cons.mp he with rfl | he
    · exact ⟨_, List.mem_cons_self, .inl rfl⟩
    · obtain ⟨t, ht, h⟩ := isTms_mem h e he
      exact ⟨t, List.mem_cons_of_mem _ ht, h⟩
  | _, _, .tup h, e, he => by
    rcases List.mem_cons.mp he with rfl | he
    · exact ⟨_, List.mem_cons_self, .inr rfl⟩
    · obtain ⟨t, ht, h⟩ := isTms_mem h e he
      exact ⟨t, List.mem_cons_of_mem _ ht, h⟩
theorem isPrs_mem : ∀ {ds : List D} {ts : List Pr}, IsPrs ds ts → ∀ e ∈ ds, ∃ t ∈ ts, e = pL t ∨ e = pT t
  | _, _, .nil, e, he => nomatch he
  | _, _, .lst h, e, he => by
    rcases List.mem_cons.mp he with rfl | he
    · exact ⟨_, List.mem_cons_self, .inl rfl⟩
    · obtain ⟨t, ht, h⟩ := isPrs_mem h e he
      exact ⟨t, List.mem_cons_of_mem _ ht, h⟩
  | _, _, .tup h, e, he => by
    rcases List.mem_cons.mp he with rfl | he
    · exact ⟨_, List.mem_cons_self, .inr rfl⟩
    · obtain ⟨t, ht, h⟩ := isPrs_mem h e he
      exact ⟨t, List.mem_cons_of_mem _ ht, h⟩
/-- a function of a term, of its datum -/
def onT (f : Tm → Option D) : D → Option D
  | .lst [.str r, .int s, .int c] => f (r, s, c)
  | .tup [.str r, .int s, .int c] => f (r, s, c)
  | _ => none
theorem onT_all (f : Tm → Option D) : ∀ {ds : List D} {ts : List Tm}, IsTms ds ts → ds.filterMap (onT f) = ts.filterMap f
  | _, _, .nil => rfl
  | _, _, .lst (t := t) h => by rw [List.filterMap_cons, List.filterMap_cons, onT_all f h]; rfl
  | _, _, .tup (t := t) h => by rw [List.filterMap_cons, List.filterMap_cons, onT_all f h]; rfl
theorem onT_at (f : Tm → Option D) {e : D} {t : Tm} (h : e = tL t ∨ e = tT t) : onT f e = f t := by rcases h with rfl | rfl <;> rfl
/-- the target of three -/
theorem tg_term {i j k : Nat} {e : D} {t : Tm} (h : e = tL t ∨ e = tT t) : TgD K (gSeqA K 3 (gCons (gName i) (gCons (gName j) (gCons (gName k) gNil)))) ([i] ++ ([j] ++ ([k] ++ []))) e ρ (((ρ.set i (.d (.str t.1))).set j (.d (.int t.2.1))).set k (.d (.int t.2.2))) := by
  rcases h with rfl | rfl
  · exact tg_seqL (tgs_cons tg_name (tgs_cons tg_name (tgs_cons tg_name tgs_nil))) rfl
  · exact tg_seqT (tgs_cons tg_name (tgs_cons tg_name (tgs_cons tg_name tgs_nil))) rfl
theorem tg_pair {i j : Nat} {e : D} {t : Pr} (h : e = pL t ∨ e = pT t) : TgD K (gSeqA K 2 (gCons (gName i) (gCons (gName j) gNil))) ([i] ++ ([j] ++ [])) e ρ ((ρ.set i (.d (.int t.1))).set j (.d (.int t.2))) := by
  rcases h with rfl | rfl
  · exact tg_seqL (tgs_cons tg_name (tgs_cons tg_name tgs_nil)) rfl
  · exact tg_seqT (tgs_cons tg_name (tgs_cons tg_name tgs_nil)) rfl
theorem filterMap_some {α β : Type} (f : α → β) (l : List α) : l.filterMap (fun a => some (f a)) = l.map f := by
  induction l with
  | nil => rfl
  | cons a l ih => rw [List.filterMap_cons]; simp only [List.map_cons]; rw [ih]
end
end Go
set_option Elab.async false
set_option linter.all false
set_option maxRecDepth 100000
set_option maxHeartbeats 1000000
namespace Go
open PySem PySem.Spec PyProof.Rows L2 DL
section
variable {K : PySem.W.Frag} {W : WX} {ρ : List Sl} {te : TE} {d : D}
theorem fm_congr {α β : Type} {f g : α → Option β} {l : List α} (h : ∀ a ∈ l, f a = g a) : l.filterMap f = l.filterMap g := by
  induction l with
  | nil => rfl
  | cons a l ih => rw [List.filterMap_cons, List.filterMap_cons, h a List.mem_cons_self, ih fun b hb => h b (List.mem_cons_of_mem _ hb)]
/-! ### sum_times -/
def onP (f : Pr → List D) : D → List D
  | .lst [.int b, .int c] => f (b, c)
  | .tup [.int b, .int c] => f (b, c)
  | _ => []
theorem onP_all (f : Pr → List D) : ∀ {ds : List D} {ps : List Pr}, IsPrs ds ps → ds.flatMap (onP f) = ps.flatMap f
  | _, _, .nil => rfl
  | _, _, .lst h => by rw [List.flatMap_cons, List.flatMap_cons, onP_all f h]; rfl
  | _, _, .tup h => by rw [List.flatMap_cons, List.flatMap_cons, onP_all f h]; rfl
theorem onP_at (f : Pr → List D) {e : D} {t : Pr} (h : e = pL t ∨ e = pT t) : onP f e = f t := by rcases h with rfl | rfl <;> rfl
/-! ### the law's sums as dicts -/
def pairsOf (L : List Tm) : List (Kk × Int) := L.map fun t => (Tm.k t, t.2.2)
theorem zip_eD : ∀ L : List Tm, (eKs L).zip (eVs L) = encT (pairsOf L)
  | [] => rfl
  | t :: L => by
    show ((kk (Tm.k t)) :: eKs L).zip (D.int t.2.2 :: eVs L) = _
    rw [List.zip_cons_cons, zip_eD L]; rfl
theorem pairs_keys (L : List Tm) : (pairsOf L).map (·.1) = L.map Tm.k := by unfold pairsOf; rw [List.map_map]; rfl
theorem can_nodup {L : List Tm} (h : Can L) : (L.map Tm.k).Nodup := by
  refine List.pairwise_map.mpr (h.lt.imp fun {a b} hab e => ?_)
  unfold ltT at hab
  rw [e, ltK_irrefl] at hab; cases hab
theorem gget_of_mem {a : List (Kk × Int)} (nd : (a.map (·.1)).Nodup) {p : Kk × Int} (hp : p ∈ a) : gget a p.1 = some p.2 := by
  induction a with
  | nil => cases hp
  | cons q a ih =>
    have nd' := List.nodup_cons.mp nd
    unfold gget
    rcases List.mem_cons.mp hp with rfl | h
    · rw [if_pos rfl]
    · rw [if_neg fun e => nd'.1 (show q.1 ∈ _ by rw [e]; exact List.mem_map_of_mem h)]
      exact ih nd'.2 h
theorem pairs_get {L : List Tm} (h : Can L) {t : Tm} (ht : t ∈ L) : gget (pairsOf L) t.k = some t.2.2 :=
  gget_of_mem (p := (Tm.k t, t.2.2)) (by rw [pairs_keys]; exact can_nodup h) (List.mem_map_of_mem ht)
theorem sortK_can {L : List Tm} (h : Can L) : sortK (L.map Tm.k) = L.map Tm.k := by
  unfold sortK
  refine List.mergeSort_of_pairwise (List.pairwise_map.mpr (h.lt.imp fun {a b} hab => ?_))
  rw [leK_eq, ltK_asymm hab]; rfl
/-- a term's items, by place -/
theorem ev_it0 {e : D} {t : Tm} (h : EvD K te ρ e) (ht : e = tL t ∨ e = tT t) : EvD K (tOp (rIxA K) te (tC (.int 0))) ρ (.str t.1) := by
  rcases ht with rfl | rfl
  · exact ev_ixL (i := 0) (sl_d h) ev_int rfl
  · exact ev_ixT (i := 0) (st_d h) ev_int rfl
theorem ev_it1 {e : D} {t : Tm} (h : EvD K te ρ e) (ht : e = tL t ∨ e = tT t) : EvD K (tOp (rIxA K) te (tC (.int 1))) ρ (.int t.2.1) := by
  rcases ht with rfl | rfl
  · exact ev_ixL (i := 1) (sl_d h) ev_int rfl
  · exact ev_ixT (i := 1) (st_d h) ev_int rfl
theorem ev_it2 {e : D} {t : Tm} (h : EvD K te ρ e) (ht : e = tL t ∨ e = tT t) : EvD K (tOp (rIxA K) te (tC (.int 2))) ρ (.int t.2.2) := by
  rcases ht with rfl | rfl
  · exact ev_ixL (i := 2) (sl_d h) ev_int rfl
  · exact ev_ixT (i := 2) (st_d h) ev_int rfl
def encS (d0 : D) (a : List (Kk × Int)) : List Sl := [.d d0, .ot (encT a), .no, .no, .no]
abbrev tbS (K : PySem.W.Frag) : TS := sDPut (tVar 1) (tTup (tCons (tOp (rIxA K) (tVar 2) (tC (.int 0))) (tCons (tOp (rIxA K) (tVar 2) (tC (.int 1))) tNil))) (tOp (rAddA K) (tDGet2 (tVar 1) (tTup (tCons (tOp (rIxA K) (tVar 2) (tC (.int 0))) (tCons (tOp (rIxA K) (tVar 2) (tC (.int 1))) tNil))) (tC (.int 0))) (tOp (rIxA K) (tVar 2) (tC (.int 2))))
theorem run_lawsum (d0 : D) : ∀ {ds : List D} {ts : List Tm}, IsTms ds ts → ∀ a : List (Kk × Int), a.length + ts.length ≤ 4000000 → Run (Turn1 K W (gName 2) (tbS K)) ds (encS d0 a) (.nx (encS d0 (accM a ts))) := by
  intro ds ts h
  have one : ∀ (e : D) (t : Tm) (a : List (Kk × Int)), (e = tL t ∨ e = tT t) → a.length < 16777216 → Turn1 K W (gName 2) (tbS K) e (encS d0 a) (.nx (encS d0 (stepM a t))) := fun e t a ht hl => by
    have hk : EvD K (tTup (tCons (tOp (rIxA K) (tVar 2) (tC (.int 0))) (tCons (tOp (rIxA K) (tVar 2) (tC (.int 1))) tNil))) [.d d0, .ot (encT a), .d e, .no, .no] (.tup ((kk (Tm.k t)).map kD)) := ev_tup (av_cons (ev_it0 (ev_var rfl) ht) (av_cons (ev_it1 (ev_var rfl) ht) av_nil)) le2
    refine t1_name (sv_nx (sv_putT (k := kk (Tm.k t)) (d := .int ((gget a (Tm.k t)).getD 0 + t.2.2)) rfl (ev_addI (ev_eq (ev_get2T (dt_own rfl) hk ev_int) (get2_enc _ _)) (ev_it2 (ev_var rfl) ht)) hk (gput_len_lt hl)) [2] ?_)
    rw [gput_enc]; rfl
  induction h with
  | nil => intro a _; exact .nil
  | @lst t ds ts h ih =>
    intro a hl
    have hs : (stepM a t).length ≤ a.length + 1 := gput_length _ _ a
    rw [List.length_cons] at hl
    exact .go (one _ t a (.inl rfl) (by omega)) (ih (stepM a t) (by omega))
  | @tup t ds ts h ih =>
    intro a hl
    have hs : (stepM a t).length ≤ a.length + 1 := gput_length _ _ a
    rw [List.length_cons] at hl
    exact .go (one _ t a (.inr rfl) (by omega)) (ih (stepM a t) (by omega))
theorem gput_new {κ β : Type} [DecidableEq κ] {k : κ} {v : β} : ∀ {a : List (κ × β)}, k ∉ a.map (·.1) → gput a k v = a ++ [(k, v)]
  | [], _ => rfl
  | p :: r, h => by
    unfold gput
    rw [if_neg fun e => h (by rw [← e]; exact List.mem_cons_self), gput_new fun z => h (List.mem_cons_of_mem _ z)]; rfl
/-- what the second loop keeps -/
def keepM (a : List (Kk × Int)) (ks : List Kk) : List (Kk × Int) := ks.filterMap fun k => if (gget a k).getD 0 ≠ 0 then some (k, (gget a k).getD 0) else none
theorem keep_mem {a : List (Kk × Int)} {ks : List Kk} {k : Kk} (h : k ∈ (keepM a ks).map (·.1)) : k ∈ ks := by
  obtain ⟨p, hp, rfl⟩ := List.mem_map.mp h
  obtain ⟨k', hk', e⟩ := List.mem_filterMap.mp hp
  by_cases z : (gget a k').getD 0 ≠ 0
  · rw [if_pos z] at e; cases e; exact hk'
  · rw [if_neg z] at e; cases e
theorem keep_pairs (a : List (Kk × Int)) : keepM a (sortK (a.map (·.1))) = pairsOf (ordOf a) := by
  unfold keepM pairsOf ordOf
  rw [List.map_filterMap]
  congr 1
  funext k
  by_cases z : (gget a k).getD 0 ≠ 0
  · rw [if_pos z, if_pos z]; rfl
  · rw [if_neg z, if_neg z]; rfl
def encS2 (d0 : D) (a b : List (Kk × Int)) : List Sl := [.d d0, .ot (encT a), .no, .ot (encT b), .no]
abbrev tbS2 (K : PySem.W.Frag) : TS := tIfS (tTest (tOp (rNeD K) (tDGet (tVar 1) (tVar 4)) (tC (.int 0)))) (sDPut (tVar 3) (tVar 4) (tDGet (tVar 1) (tVar 4))) tNext
theorem run_keep (d0 : D) (a : List (Kk × Int)) : ∀ (ks done : List Kk), (done ++ ks).Nodup → (∀ k ∈ ks, k ∈ a.map (·.1)) → done.length + ks.length ≤ 4000000 →
    Run (Turn1 K W (gName 4) (tbS2 K)) (ks.map tupK) (encS2 d0 a (keepM a done)) (.nx (encS2 d0 a (keepM a (done ++ ks))))
  | [], done, _, _, _ => by rw [List.append_nil]; exact .nil
  | k :: ks, done, nd, hk, hl => by
    rw [List.length_cons] at hl
    have ih := run_keep d0 a ks (done ++ [k]) (by rw [List.append_assoc]; exact nd) (fun x hx => hk x (List.mem_cons_of_mem _ hx)) (by rw [List.length_append, List.length_singleton]; omega)
    rw [List.append_assoc] at ih
    obtain ⟨v, hv⟩ := gget_some (hk k List.mem_cons_self)
    have hg : gget (encT a) (kk k) = some (.int v) := by rw [gget_enc, hv]; rfl
    have hd : EvD K (tDGet (tVar 1) (tVar 4)) [.d d0, .ot (encT a), .no, .ot (encT (keepM a done)), .d (tupK k)] (.int v) := ev_dgetT (k := kk k) (dt_own rfl) (ev_var rfl) hg
    refine .go (t1_name (sv_nx (sv_if (b := !(v == 0)) (o := .nx [.d d0, .ot (encT a), .no, .ot (encT (keepM a (done ++ [k]))), .d (tupK k)]) (tv_neI hd ev_int) (fun hb => ?_) fun hb => ?_) [4] rfl)) ih
    · have ne : v ≠ 0 := fun z => by rw [z] at hb; cases hb
      have hn : k ∉ (keepM a done).map (·.1) := fun z => by
        have h1 := keep_mem z
        have h2 := (List.nodup_append.mp nd).2.2 k h1 k List.mem_cons_self
        exact h2 rfl
      have hlen : (keepM a done).length ≤ done.length := List.length_filterMap_le _ _
      have e1 : keepM a (done ++ [k]) = keepM a done ++ [(k, v)] := by
        unfold keepM
        rw [List.filterMap_append, List.filterMap_cons, List.filterMap_nil]
        have hv0 : (gget a k).getD 0 = v := by rw [hv]; rfl
        rw [hv0, if_pos ne]
      refine sv_to (sv_putT (k := kk k) (d := .int v) rfl hd (ev_var rfl) (gput_len_lt (by omega))) ?_
      rw [gput_enc, gput_new hn, e1]; rfl
    · have e0 : v = 0 := by
        by_cases z : v = 0
        · exact z
        · rw [show (v == 0) = false from beq_eq_false_iff_ne.mpr z] at hb; cases hb
      have e1 : keepM a (done ++ [k]) = keepM a done := by
        unfold keepM
        rw [List.filterMap_append, List.filterMap_cons, List.filterMap_nil]
        have hv0 : (gget a k).getD 0 = v := by rw [hv]; rfl
        rw [hv0, if_neg (fun z => z e0), List.append_nil]
      rw [e1]
      exact sv_next
theorem frz_pairs (L : List Tm) : Sl.frz (.ot (encT (pairsOf L))) = eDict L := by
  show D.dt ((encT (pairsOf L)).map (·.1)) ((encT (pairsOf L)).map (·.2)) = _
  unfold eDict eKs eVs encT pairsOf
  rw [List.map_map, List.map_map, List.map_map, List.map_map]; rfl
theorem tupK_pl (l : List Kk) : D.pls (l.map tupK) = true := by
  induction l with
  | nil => rfl
  | cons k l ih => show ((tupK k).pl && D.pls (l.map tupK)) = true; rw [ih]; rfl
theorem tupK_py (l : List Kk) : (l.map tupK).map D.py = l.map pyK := by rw [List.map_map]; rfl
def fU (a : List (Kk × Int)) : D → Option D
  | .tup [.str r, .int s] => some (tT (r, s, (gget a (r, s)).getD 0))
  | _ => none
end
end Go
set_option Elab.async false
set_option linter.all false
set_option maxRecDepth 100000
set_option maxHeartbeats 1000000
namespace Go
open PySem PySem.Spec PyProof.Rows L2 DL
section
variable {K : PySem.W.Frag} {W : WX} {ρ : List Sl} {te : TE} {d : D}
theorem eKs_tup (L : List Tm) : ((eKs L).map fun k => D.tup (k.map kD)) = (L.map Tm.k).map tupK := by unfold eKs; rw [List.map_map, List.map_map]; rfl
theorem keys_eDict (L : List Tm) : KeysD (eDict L) ((L.map Tm.k).map tupK) := .inr ⟨eKs L, eVs L, rfl, (eKs_tup L).symm⟩
theorem evdt_eDict {L : List Tm} (h : EvD K te ρ (eDict L)) : EvDT K te ρ (encT (pairsOf L)) := by
  have := dt_d (ks := eKs L) (ds := eVs L) h
  rw [zip_eD] at this; exact this
def fV (b : Int) (a : List (Kk × Int)) : D → Option D
  | .tup [.str r, .int s] => some (tT (r, s + b, (gget a (r, s)).getD 0))
  | _ => none
/-! ### _law_mul -/
def encI (a : List (Int × Int)) : List (Key × D) := a.map fun p => (.inl p.1, .int p.2)
theorem gget_encI (k : Int) : ∀ a : List (Int × Int), gget (encI a) (.inl k) = (gget a k).map D.int
  | [] => rfl
  | p :: r => by
    have ih := gget_encI k r
    show gget (((.inl p.1 : Key), D.int p.2) :: encI r) (.inl k) = _
    unfold gget
    by_cases e : p.1 = k
    · rw [if_pos (by rw [e]), if_pos e]; rfl
    · rw [if_neg fun z => e (Sum.inl.inj z), if_neg e, ih]
theorem gput_encI (k v : Int) : ∀ a : List (Int × Int), gput (encI a) (.inl k) (.int v) = encI (gput a k v)
  | [] => rfl
  | p :: r => by
    have ih := gput_encI k v r
    show gput (((.inl p.1 : Key), D.int p.2) :: encI r) (.inl k) (.int v) = _
    unfold gput
    by_cases e : p.1 = k
    · rw [if_pos (by rw [e]), if_pos e]; rfl
    · rw [if_neg fun z => e (Sum.inl.inj z), if_neg e, ih]; rfl
theorem zip_eP : ∀ P : List Pr, (P.map fun p => (.inl p.1 : Key)).zip (P.map fun p => D.int p.2) = encI P
  | [] => rfl
  | p :: P => by rw [List.map_cons, List.map_cons, List.zip_cons_cons, zip_eP P]; rfl
theorem gget_of_memI {a : List (Int × Int)} (nd : (a.map (·.1)).Nodup) {p : Int × Int} (hp : p ∈ a) : gget a p.1 = some p.2 := by
  induction a with
  | nil => cases hp
  | cons q a ih =>
    have nd' := List.nodup_cons.mp nd
    unfold gget
    rcases List.mem_cons.mp hp with rfl | h
    · rw [if_pos rfl]
    · rw [if_neg fun e => nd'.1 (show q.1 ∈ _ by rw [e]; exact List.mem_map_of_mem h)]
      exact ih nd'.2 h
theorem asc_nodup {P : List Pr} (h : P.Pairwise (fun a b => a.1 < b.1)) : (P.map (·.1)).Nodup := List.pairwise_map.mpr (h.imp fun {a b} hab e => by omega)
theorem evdk_eP {P : List Pr} (h : EvD K te ρ (ePDict P)) : EvDK K te ρ (encI P) := by
  have := dk_d (ks := P.map fun p => (.inl p.1 : Key)) (ds := P.map fun p => D.int p.2) h
  rw [zip_eP] at this; exact this
def mulT (p : Pr) (t : Tm) : Tm := (t.1, t.2.1 + p.1, p.2 * t.2.2)
abbrev tbM (K : PySem.W.Frag) : TS := (tSeq (tAsg (tTup (tCons (tOp (rIxA K) (tVar 4) (tC (.int 0))) (tCons (tOp (rAddA K) (tOp (rIxA K) (tVar 4) (tC (.int 1))) (tVar 3)) tNil))) (gName 5))
    (sDPut (tVar 2) (tVar 5) (tOp (rAddA K) (tDGet2 (tVar 2) (tVar 5) (tC (.int 0))) (tOp rMulA (tDGet (tVar 0) (tVar 3)) (tDGet (tVar 1) (tVar 4))))))
def encM (P : List Pr) (L : List Tm) (a : List (Kk × Int)) (x : Sl) : List Sl := [.d (ePDict P), .d (eDict L), .ot (encT a), x, .no, .no]
theorem run_mul1 {P : List Pr} {L : List Tm} (hP : P.Pairwise (fun a b => a.1 < b.1)) (hL : Can L) (bP : BdP 1000 P) (bL : Bd 100000 L) {p : Pr} (hp : p ∈ P) : ∀ (M : List Tm) (a : List (Kk × Int)), (∀ t ∈ M, t ∈ L) → a.length + M.length ≤ 4000000 →
    Run (Turn1 K W (gName 4) (tbM K)) ((M.map Tm.k).map tupK) (encM P L a (.d (.int p.1))) (.nx (encM P L (accM a (M.map (mulT p))) (.d (.int p.1))))
  | [], a, _, _ => .nil
  | t :: M, a, hm, hl => by
    rw [List.length_cons] at hl
    have hs : (stepM a (mulT p t)).length ≤ a.length + 1 := gput_length _ _ a
    have ih := run_mul1 hP hL bP bL hp M (stepM a (mulT p t)) (fun u hu => hm u (List.mem_cons_of_mem _ hu)) (by omega)
    have ht := hm t List.mem_cons_self
    have hge : gget (encT (pairsOf L)) (kk t.k) = some (.int t.2.2) := by rw [gget_enc, pairs_get hL ht]; rfl
    have hgp : gget (encI P) (.inl p.1) = some (.int p.2) := by rw [gget_encI, gget_of_memI (asc_nodup hP) hp]; rfl
    refine .go (t1_name (sv_nx (sv_seq (sv_asg (d := .tup ((kk (Tm.k (mulT p t))).map kD)) (ev_tup (av_cons (ev_ixT (i := 0) (st_d (ev_var rfl)) ev_int rfl) (av_cons (ev_addI (ev_ixT (i := 1) (st_d (ev_var rfl)) ev_int rfl) (ev_var rfl)) av_nil)) le2)) (sv_putT (k := kk (Tm.k (mulT p t))) (d := .int ((gget a (Tm.k (mulT p t))).getD 0 + p.2 * t.2.2)) rfl (ev_addI (ev_eq (ev_get2T (k := kk (Tm.k (mulT p t))) (dt_own rfl) (ev_var rfl) ev_int) (get2_enc _ _)) (ev_mulI (ev_dgetK (k := .inl p.1) (evdk_eP (ev_var rfl)) (ev_var rfl) hgp) (ev_dgetT (k := kk t.k) (evdt_eDict (ev_var rfl)) (ev_var rfl) hge) (mul_ok 1000 100000 (bP p hp) (bL t ht) (by decide)))) (ev_var rfl) (gput_len_lt (by omega)))) [4, 5] ?_)) ih
    rw [gput_enc]; rfl
theorem accM_append (a : List (Kk × Int)) (x y : List Tm) : accM a (x ++ y) = accM (accM a x) y := List.foldl_append
theorem run_mul {P : List Pr} {L : List Tm} (hP : P.Pairwise (fun a b => a.1 < b.1)) (hL : Can L) (bP : BdP 1000 P) (bL : Bd 100000 L) : ∀ (Q : List Pr) (a : List (Kk × Int)), (∀ p ∈ Q, p ∈ P) → a.length + Q.length * L.length ≤ 4000000 →
    Run (Turn1 K W (gName 3) (tLockA (tFor (iSeq K (tVar 1)) (gName 4) (tbM K)))) (Q.map fun p => D.int p.1) (encM P L a .no) (.nx (encM P L (accM a (mulM Q L)) .no))
  | [], a, _, _ => .nil
  | p :: Q, a, hq, hl => by
    rw [List.length_cons, Nat.add_mul, Nat.one_mul] at hl
    have h1 := accM_len (L.map (mulT p)) a
    rw [List.length_map] at h1
    have ih := run_mul hP hL bP bL Q (accM a (L.map (mulT p))) (fun u hu => hq u (List.mem_cons_of_mem _ hu)) (by omega)
    have e1 : accM a (mulM (p :: Q) L) = accM (accM a (L.map (mulT p))) (mulM Q L) := by rw [← accM_append]; rfl
    rw [e1]
    refine .go (t1_name (sv_nx (sv_forKeys (s := 1) (u0 := eDict L) rfl (keys_eDict L) (run_mul1 hP hL bP bL (hq p List.mem_cons_self) L a (fun _ h => h) (by omega)) (fun _ _ _ z => nomatch z)) [3] ?_)) ih
    rfl
theorem cf_acc {a : List (Kk × Int)} (nd : (a.map (·.1)).Nodup) (k : Kk) : cf (a.map fun q => (q.1.1, q.1.2, q.2)) k = (gget a k).getD 0 := by
  induction a with
  | nil => rfl
  | cons q a ih =>
    have nd' := List.nodup_cons.mp nd
    rw [List.map_cons]
    show (if q.1 = k then q.2 else 0) + cf (a.map fun q => (q.1.1, q.1.2, q.2)) k = _
    rw [ih nd'.2]
    have e2 : gget (q :: a) k = if q.1 = k then some q.2 else gget a k := rfl
    rw [e2]
    by_cases e : q.1 = k
    · rw [if_pos e, if_pos e, gget_none (by rw [← e]; exact nd'.1)]
      show q.2 + 0 = q.2; omega
    · rw [if_neg e, if_neg e, Int.zero_add]
theorem keys_own (a : List (Kk × Int)) : KeysD (Sl.frz (.ot (encT a))) ((a.map (·.1)).map tupK) := .inr ⟨(encT a).map (·.1), (encT a).map (·.2), rfl, by unfold encT; rw [List.map_map, List.map_map, List.map_map]; rfl⟩
theorem evdt_own {a : List (Kk × Int)} (h : EvD K te ρ (Sl.frz (.ot (encT a)))) : EvDT K te ρ (encT a) := by
  have := dt_d (ks := (encT a).map (·.1)) (ds := (encT a).map (·.2)) h
  rw [zip_self] at this; exact this
end
end Go
set_option Elab.async false
set_option linter.all false
set_option maxRecDepth 100000
set_option maxHeartbeats 1000000
namespace Go
open PySem PySem.Spec PyProof.Rows L2 DL
section
variable {K : PySem.W.Frag} {W : WX} {ρ : List Sl} {te : TE} {d : D}
/-! ### _law_poly -/
theorem get2_encI (k : Int) (a : List (Int × Int)) : (gget (encI a) (.inl k)).getD (.int 0) = D.int ((gget a k).getD 0) := by
  rw [gget_encI]; cases gget a k <;> rfl
def encP (d0 : D) (a : List (Int × Int)) : List Sl := [.d d0, .ok (encI a), .no, .no, .no]
abbrev tbP (K : PySem.W.Frag) : TS := sDPut (tVar 1) (tOp (rIxA K) (tVar 2) (tC (.int 0))) (tOp (rAddA K) (tDGet2 (tVar 1) (tOp (rIxA K) (tVar 2) (tC (.int 0))) (tC (.int 0))) (tOp (rIxA K) (tVar 2) (tC (.int 1))))
theorem gputI_len {a : List (Int × Int)} {n : Nat} (h : a.length < n) : (encI a).length < n := by unfold encI; rw [List.length_map]; exact h
theorem body_poly (d0 : D) (a : List (Int × Int)) (p : Pr) (e : D) (h0 : EvD K (tOp (rIxA K) (tVar 2) (tC (.int 0))) [.d d0, .ok (encI a), .d e, .no, .no] (.int p.1)) (h1 : EvD K (tOp (rIxA K) (tVar 2) (tC (.int 1))) [.d d0, .ok (encI a), .d e, .no, .no] (.int p.2)) (hl : a.length < 16777216) :
    SvD K W (tbP K) [.d d0, .ok (encI a), .d e, .no, .no] (.nx (encP d0 (stepP a p))) := by
  have hk : EvD K (tOp (rIxA K) (tVar 2) (tC (.int 0))) [.d d0, .ok (encI a), .d e, .no, .no] (kD (.inl p.1)) := h0
  refine sv_nx (sv_putK (k := .inl p.1) (d := .int ((gget a p.1).getD 0 + p.2)) rfl (ev_addI (ev_eq (ev_get2K (dk_own rfl) hk ev_int) (get2_encI _ _)) h1) hk (gputI_len hl)) [2] ?_
  rw [gput_encI]; rfl
theorem run_poly (d0 : D) : ∀ {ds : List D} {ps : List Pr}, IsPrs ds ps → ∀ a : List (Int × Int), a.length + ps.length ≤ 4000000 → Run (Turn1 K W (gName 2) (tbP K)) ds (encP d0 a) (.nx (encP d0 (accP a ps)))
  | _, _, .nil, a, _ => .nil
  | _, _, .lst (p := p) (ps := ps) h, a, hl => by
    rw [List.length_cons] at hl
    have hs : (stepP a p).length ≤ a.length + 1 := gput_length _ _ a
    exact .go (t1_name (body_poly d0 a p _ (ev_ixL (i := 0) (sl_d (ev_var rfl)) ev_int rfl) (ev_ixL (i := 1) (sl_d (ev_var rfl)) ev_int rfl) (by omega))) (run_poly d0 h (stepP a p) (by omega))
  | _, _, .tup (p := p) (ps := ps) h, a, hl => by
    rw [List.length_cons] at hl
    have hs : (stepP a p).length ≤ a.length + 1 := gput_length _ _ a
    exact .go (t1_name (body_poly d0 a p _ (ev_ixT (i := 0) (st_d (ds := [.int p.1, .int p.2]) (ev_var rfl)) ev_int rfl) (ev_ixT (i := 1) (st_d (ds := [.int p.1, .int p.2]) (ev_var rfl)) ev_int rfl) (by omega))) (run_poly d0 h (stepP a p) (by omega))
def keepI (a : List (Int × Int)) (ks : List Int) : List (Int × Int) := ks.filterMap fun k => if (gget a k).getD 0 ≠ 0 then some (k, (gget a k).getD 0) else none
theorem keepI_mem {a : List (Int × Int)} {ks : List Int} {k : Int} (h : k ∈ (keepI a ks).map (·.1)) : k ∈ ks := by
  obtain ⟨p, hp, rfl⟩ := List.mem_map.mp h
  obtain ⟨k', hk', e⟩ := List.mem_filterMap.mp hp
  by_cases z : (gget a k').getD 0 ≠ 0
  · rw [if_pos z] at e; cases e; exact hk'
  · rw [if_neg z] at e; cases e
def encP2 (d0 : D) (a b : List (Int × Int)) : List Sl := [.d d0, .ok (encI a), .no, .ok (encI b), .no]
theorem run_keepI (d0 : D) (a : List (Int × Int)) : ∀ (ks done : List Int), (done ++ ks).Nodup → (∀ k ∈ ks, k ∈ a.map (·.1)) → done.length + ks.length ≤ 4000000 →
    Run (Turn1 K W (gName 4) (tbS2 K)) (ks.map D.int) (encP2 d0 a (keepI a done)) (.nx (encP2 d0 a (keepI a (done ++ ks))))
  | [], done, _, _, _ => by rw [List.append_nil]; exact .nil
  | k :: ks, done, nd, hk, hl => by
    rw [List.length_cons] at hl
    have ih := run_keepI d0 a ks (done ++ [k]) (by rw [List.append_assoc]; exact nd) (fun x hx => hk x (List.mem_cons_of_mem _ hx)) (by rw [List.length_append, List.length_singleton]; omega)
    rw [List.append_assoc] at ih
    obtain ⟨v, hv⟩ := gget_some (hk k List.mem_cons_self)
    have hg : gget (encI a) (.inl k) = some (.int v) := by rw [gget_encI, hv]; rfl
    have hd : EvD K (tDGet (tVar 1) (tVar 4)) [.d d0, .ok (encI a), .no, .ok (encI (keepI a done)), .d (.int k)] (.int v) := ev_dgetK (k := .inl k) (dk_own rfl) (ev_var rfl) hg
    refine .go (t1_name (sv_nx (sv_if (b := !(v == 0)) (o := .nx [.d d0, .ok (encI a), .no, .ok (encI (keepI a (done ++ [k]))), .d (.int k)]) (tv_neI hd ev_int) (fun hb => ?_) fun hb => ?_) [4] rfl)) ih
    · have ne : v ≠ 0 := fun z => by rw [z] at hb; cases hb
      have hn : k ∉ (keepI a done).map (·.1) := fun z => by
        have h1 := keepI_mem z
        have h2 := (List.nodup_append.mp nd).2.2 k h1 k List.mem_cons_self
        exact h2 rfl
      have hlen : (keepI a done).length ≤ done.length := List.length_filterMap_le _ _
      have e1 : keepI a (done ++ [k]) = keepI a done ++ [(k, v)] := by
        unfold keepI
        rw [List.filterMap_append, List.filterMap_cons, List.filterMap_nil]
        have hv0 : (gget a k).getD 0 = v := by rw [hv]; rfl
        rw [hv0, if_pos ne]
      refine sv_to (sv_putK (k := .inl k) (d := .int v) rfl hd (ev_var rfl) (gputI_len (by omega))) ?_
      rw [gput_encI, gput_new hn, e1]; rfl
    · have e0 : v = 0 := by
        by_cases z : v = 0
        · exact z
        · rw [show (v == 0) = false from beq_eq_false_iff_ne.mpr z] at hb; cases hb
      have e1 : keepI a (done ++ [k]) = keepI a done := by
        unfold keepI
        rw [List.filterMap_append, List.filterMap_cons, List.filterMap_nil]
        have hv0 : (gget a k).getD 0 = v := by rw [hv]; rfl
        rw [hv0, if_neg (fun z => z e0), List.append_nil]
      rw [e1]
      exact sv_next
theorem sortD_ints (l : List Int) : sortD (l.map D.int) = (l.mergeSort leI).map D.int := by
  unfold sortD
  rw [List.map_mergeSort (s := PySem.W.dataLe false D.py)]
  intro a _ b _
  have := congrFun (congrFun (PySem.W.dataLe_int (fun i : Int => i)) a) b
  exact this.symm
theorem sortOk_ints {l : List Int} (h : l.length ≤ 16777216) : SortOk (l.map PyData.int) where
  al := fun d hd e he => by
    obtain ⟨a, _, rfl⟩ := List.mem_map.mp hd
    obtain ⟨b, _, rfl⟩ := List.mem_map.mp he
    rfl
  so := .inr fun d hd => by
    obtain ⟨a, _, rfl⟩ := List.mem_map.mp hd
    exact ⟨(fun z => nomatch z), fun xs z => nomatch z⟩
  dp := fun d hd => by
    obtain ⟨a, _, rfl⟩ := List.mem_map.mp hd
    exact (by decide : (PyData.int 0).depth ≤ 8)
  sz := by rw [List.length_map]; exact h
theorem ints_pl (l : List Int) : D.pls (l.map D.int) = true := by
  induction l with
  | nil => rfl
  | cons k l ih => show ((D.int k).pl && D.pls (l.map D.int)) = true; rw [ih]; rfl
theorem encI_keys (a : List (Int × Int)) : ((encI a).map fun kv => kD kv.1) = (a.map (·.1)).map D.int := by unfold encI; rw [List.map_map, List.map_map]; rfl
theorem pr_law_poly (W : WX) (ds : List D) (r : Res) (h : fr_law_poly ds r) : FnEnd K W (t_law_poly K W) (entry N_law_poly ds) r := by
  obtain ⟨d, ps, ⟨xs, hx, hd⟩, lp, rfl, rfl⟩ := h
  left
  show SvD K W (t_law_poly K W) [.d d, .no, .no, .no, .no] _
  have ha := accP_len ps []
  have e0 : (([] : List (Int × Int))).length = 0 := rfl
  rw [e0] at ha
  unfold t_law_poly
  refine sv_seq sv_asgDK (sv_seq (sv_for (wi_terms (ev_var rfl) hd) (run_poly d hx [] (by rw [e0]; omega))) (sv_seq sv_asgDK ?_))
  show SvD K W _ (encP2 d (accP [] ps) []) _
  have hk := evl_lstDK (K := K) (ρ := encP2 d (accP [] ps) []) (s := 1) (kvs := encI (accP [] ps)) rfl
  rw [encI_keys] at hk
  have hs := evl_sortL (sl_d (ev_of_L hk)) (ints_pl _) (by rw [List.map_map]; exact sortOk_ints (by rw [List.length_map]; omega))
  rw [sortD_ints] at hs
  have nd := accP_nodup ps [] List.nodup_nil
  have run := run_keepI (K := K) (W := W) d (accP [] ps) (((accP [] ps).map (·.1)).mergeSort leI) [] (by rw [List.nil_append]; exact (List.mergeSort_perm _ _).nodup_iff.mpr nd) (fun k hk => (List.mergeSort_perm _ _).mem_iff.mp hk) (by rw [List.length_mergeSort, List.length_map]; simp; omega)
  rw [List.nil_append] at run
  refine sv_seq (sv_for (wi_seqL (wi_list (ev_of_L hs))) run) ?_
  refine sv_frz (s := .ok (encI (polyM ps))) 3 rfl rfl (sv_retE (ev_var rfl) ?_)
  show D.dk ((encI (polyM ps)).map (·.1)) ((encI (polyM ps)).map (·.2)) = _
  unfold ePDict encI
  rw [List.map_map, List.map_map]; rfl
/-! ### bounds -/
theorem cf_bound {B : Nat} : ∀ {ts : List Tm}, Bd B ts → ∀ k, (cf ts k).natAbs ≤ ts.length * 2 ^ B
  | [], _, k => by simp [cf]
  | t :: ts, h, k => by
    have ih := cf_bound (ts := ts) (fun u hu => h u (List.mem_cons_of_mem _ hu)) k
    have h1 := h t List.mem_cons_self
    rw [List.length_cons, Nat.add_mul, Nat.one_mul]
    simp only [cf]
    by_cases e : t.k = k
    · rw [if_pos e]; omega
    · rw [if_neg e]; omega
theorem bd_ord {B C : Nat} {ts : List Tm} (h : Bd B ts) (hl : ts.length < 2 ^ C) : Bd (C + B) (ordM ts) := fun t ht => by
  have h1 := cf_bound h t.k
  rw [(ordM_mem.mp ht).1] at h1
  have h2 : ts.length * 2 ^ B < 2 ^ C * 2 ^ B := Nat.mul_lt_mul_of_pos_right hl (Nat.pow_pos (by decide))
  rw [← Nat.pow_add] at h2
  omega
theorem bd_mono {B C : Nat} {ts : List Tm} (h : Bd B ts) (hc : B ≤ C) : Bd C ts := fun t ht => Nat.lt_of_lt_of_le (h t ht) (Nat.pow_le_pow_right (by decide) hc)
def cp : List Pr → Int → Int
  | [], _ => 0
  | p :: ps, k => (if p.1 = k then p.2 else 0) + cp ps k
theorem accP_get : ∀ (ps : List Pr) (a : List (Int × Int)) (k : Int), (gget (accP a ps) k).getD 0 = (gget a k).getD 0 + cp ps k
  | [], a, k => by simp [accP, cp]
  | p :: ps, a, k => by
    show (gget (accP (stepP a p) ps) k).getD 0 = _
    rw [accP_get ps, stepP, gget_gput, cp]
    by_cases e : p.1 = k
    · rw [if_pos e, if_pos e, e]; simp only [Option.getD_some]; omega
    · rw [if_neg e, if_neg e]; omega
theorem cp_bound {B : Nat} : ∀ {ps : List Pr}, BdP B ps → ∀ k, (cp ps k).natAbs ≤ ps.length * 2 ^ B
  | [], _, k => by simp [cp]
  | t :: ts, h, k => by
    have ih := cp_bound (ps := ts) (fun u hu => h u (List.mem_cons_of_mem _ hu)) k
    have h1 := h t List.mem_cons_self
    rw [List.length_cons, Nat.add_mul, Nat.one_mul]
    simp only [cp]
    by_cases e : t.1 = k
    · rw [if_pos e]; omega
    · rw [if_neg e]; omega
theorem poly_at {ps : List Pr} {p : Pr} (h : p ∈ polyM ps) : p.2 = cp ps p.1 ∧ p.2 ≠ 0 := by
  obtain ⟨k, _, e⟩ := List.mem_filterMap.mp h
  have hg := accP_get ps [] k
  have h0 : (gget ([] : List (Int × Int)) k).getD 0 = 0 := rfl
  rw [h0, Int.zero_add] at hg
  by_cases z : (gget (accP [] ps) k).getD 0 ≠ 0
  · rw [if_pos z] at e; cases e; exact ⟨hg, z⟩
  · rw [if_neg z] at e; cases e
theorem bd_poly {B C : Nat} {ps : List Pr} (h : BdP B ps) (hl : ps.length < 2 ^ C) : BdP (C + B) (polyM ps) := fun p hp => by
  have h1 := cp_bound h p.1
  rw [← (poly_at hp).1] at h1
  have h2 : ps.length * 2 ^ B < 2 ^ C * 2 ^ B := Nat.mul_lt_mul_of_pos_right hl (Nat.pow_pos (by decide))
  rw [← Nat.pow_add] at h2
  omega
theorem len_poly (ps : List Pr) : (polyM ps).length ≤ ps.length := by
  unfold polyM
  refine Nat.le_trans (List.length_filterMap_le _ _) ?_
  rw [List.length_mergeSort, List.length_map]
  have := accP_len ps []
  simpa using this
theorem asc_poly (ps : List Pr) : (polyM ps).Pairwise (fun a b => a.1 < b.1) := by
  have h := List.pairwise_mergeSort (le := leI) (fun a b c h1 h2 => by unfold leI at *; simp only [decide_eq_true_eq] at *; omega) (fun a b => by unfold leI; simp only [Bool.or_eq_true, decide_eq_true_eq]; omega) ((accP [] ps).map (·.1))
  have nd' : (((accP [] ps).map (·.1)).mergeSort leI).Nodup := (List.mergeSort_perm _ _).nodup_iff.mpr (accP_nodup ps [] List.nodup_nil)
  have lt : (((accP [] ps).map (·.1)).mergeSort leI).Pairwise (· < ·) := List.Pairwise.imp₂ (fun a b h1 h2 => by unfold leI at h1; simp only [decide_eq_true_eq] at h1; omega) h nd'
  unfold polyM
  refine List.Pairwise.filterMap _ (fun k k' h t ht t' ht' => ?_) lt
  by_cases z : (gget (accP [] ps) k).getD 0 ≠ 0
  · rw [if_pos z] at ht
    by_cases z' : (gget (accP [] ps) k').getD 0 ≠ 0
    · rw [if_pos z'] at ht'; cases ht; cases ht'; exact h
    · rw [if_neg z'] at ht'; cases ht'
  · rw [if_neg z] at ht; cases ht
/-! ### _law_right -/
theorem ord_add (a b : List Tm) : ordM (ordM a ++ ordM b) = ordM (a ++ b) := ordM_eq fun k => by rw [cf_append, cf_append, ordM_cf, ordM_cf]
theorem ord_mul (ps : List Pr) (a : List Tm) : ordM (mulM (polyM ps) (ordM a)) = ordM (mulM ps a) := ordM_eq fun k => by rw [mul_poly]; exact mul_congr (ordM_cf a) k
theorem ord_mov (b : Int) (a : List Tm) : ordM (movM b (ordM a)) = ordM (movM b a) := ordM_eq fun k => by rw [cf_mov, cf_mov, ordM_cf]
theorem ord_back (b : Int) (a : List Tm) : ordM (movM (-b) (ordM (movM b a))) = ordM a := ordM_eq fun k => by
  rw [cf_mov, ordM_cf, cf_mov]
  show cf a (k.1, k.2 - -b - b) = _
  have : k.2 - -b - b = k.2 := by omega
  rw [this]
theorem isTerms_eTup (L : List Tm) : IsTerms (eTup L) L := ⟨_, isTms_T L, .inr rfl⟩
end
end Go
set_option Elab.async false
set_option linter.all false
set_option maxRecDepth 100000
set_option maxHeartbeats 1000000
namespace Go
open PySem PySem.Spec PyProof.Rows L2 DL
section
variable {K : PySem.W.Frag} {W : WX} {ρ : List Sl} {te : TE} {d : D}
/-! ### what is passed -/
theorem sv_ifEq {t v : TS} {o : Out} {i j : Int} {ta tb : TE} (ha : EvD K ta ρ (.int i)) (hb : EvD K tb ρ (.int j)) (hs : o.stops = true) (h1 : i = j → SvD K W t ρ o) (h2 : i ≠ j → SvD K W v ρ o) : SvD K W (tSeq (tIfS (tTest (tOp (rEqD K) ta tb)) t tNext) v) ρ o := by
  by_cases e : i = j
  · exact sv_stop (sv_ifT (tv_eq (tv_eqI ha hb) (by rw [e]; simp)) (h1 e)) hs
  · exact sv_seq (sv_ifF (tv_eq (tv_eqI ha hb) (by simpa using e)) sv_next) (h2 e)
theorem lc_map {ds : List D} {i : Nat} {xs : List D} {f : D → Option D} {g : TE} (hw : EvD K te ρ (.lst ds)) (hl : ds.length ≤ 16777215) (h : ∀ e ∈ ds, ∃ y, f e = some y ∧ EvD K g ((wipeS ρ [i]).set i (.d e)) y) (e : ds.filterMap f = xs) : EvD K (tLc (iSeq K te) (gName i) tYes g [i]) ρ (.lst xs) := by
  have hc := ev_lc (g := gName i) (tt := tYes) (te := g) (vs := [i]) (f := f) (wi_seqL (wi_list hw)) (fun a ha => by
    obtain ⟨y, h1, h2⟩ := h a ha
    exact ⟨[i], _, true, tg_name, by simp, tv_yes, fun _ => ⟨y, h1, h2⟩, fun z => nomatch z⟩) hl
  rw [e] at hc
  exact ev_of_L hc
def fPL : D → Option D
  | .lst [.int a, .int b] => some (pL (a, b))
  | _ => none
def fPT : D → Option D
  | .lst [.int a, .int b] => some (pT (a, b))
  | _ => none
theorem fPL_all (ps : List Pr) : (ps.map pL).filterMap fPL = ps.map pL := by rw [List.filterMap_map, ← filterMap_some]; rfl
theorem fPT_all (ps : List Pr) : (ps.map pL).filterMap fPT = ps.map pT := by rw [List.filterMap_map, ← filterMap_some]; rfl
theorem ev_pL {p : Pr} (h : EvD K te ρ (pL p)) : EvD K (tLst (tCons (tOp (rIxA K) te (tC (.int 0))) (tCons (tOp (rIxA K) te (tC (.int 1))) tNil))) ρ (pL p) := ev_of_L (evl_lst (av_cons (ev_ixL (i := 0) (sl_d h) ev_int rfl) (av_cons (ev_ixL (i := 1) (sl_d h) ev_int rfl) av_nil)) le2)
theorem ev_pT {p : Pr} (h : EvD K te ρ (pL p)) : EvD K (tTup (tCons (tOp (rIxA K) te (tC (.int 0))) (tCons (tOp (rIxA K) te (tC (.int 1))) tNil))) ρ (pT p) := ev_tup (av_cons (ev_ixL (i := 0) (sl_d h) ev_int rfl) (av_cons (ev_ixL (i := 1) (sl_d h) ev_int rfl) av_nil)) le2
def mixP1 : Nat → List Pr → List D
  | _, [] => []
  | n, p :: r => (if n = 1 ∨ n = 2 then pL p else pT p) :: mixP1 (n + 1) r
theorem mixP1_big : ∀ (r : List Pr) (n : Nat), 3 ≤ n → mixP1 n r = r.map pT
  | [], _, _ => rfl
  | p :: r, n, h => by
    rw [mixP1, if_neg (by omega), mixP1_big r (n + 1) (by omega)]; rfl
theorem mixP1_eq (ps : List Pr) : mixP1 0 ps = mixP ps := by
  unfold mixP
  split
  · show pT _ :: pL _ :: pL _ :: mixP1 3 _ = _
    rw [mixP1_big _ 3 (by omega)]
  · rfl
  · rfl
  · rfl
def encX (d0 : D) (f : Int) (done : List D) : List Sl := [.d d0, .d (.int f), .no, .ol done]
theorem pr_law_passed (W : WX) (ds : List D) (r : Res) (h : fr_law_passed ds r) : FnEnd K W (t_law_passed K W) (entry N_law_passed ds) r := by
  obtain ⟨ps, f, lp, rfl, rfl⟩ := h
  left
  show SvD K W (t_law_passed K W) [.d (.lst (ps.map pL)), .d (.int f), .no, .no] _
  have hl : (ps.map pL).length ≤ 16777215 := by rw [List.length_map]; omega
  have cL : EvD K (tLc (iSeq K (tVar 0)) (gName 2) tYes (tLst (tCons (tOp (rIxA K) (tVar 2) (tC (.int 0))) (tCons (tOp (rIxA K) (tVar 2) (tC (.int 1))) tNil))) [2]) [.d (.lst (ps.map pL)), .d (.int f), .no, .no] (.lst (ps.map pL)) := lc_map (f := fPL) (ev_var rfl) hl (fun e he => by
    obtain ⟨p, _, rfl⟩ := List.mem_map.mp he
    exact ⟨pL p, rfl, ev_pL (ev_var rfl)⟩) (fPL_all ps)
  have cT : EvD K (tLc (iSeq K (tVar 0)) (gName 2) tYes (tTup (tCons (tOp (rIxA K) (tVar 2) (tC (.int 0))) (tCons (tOp (rIxA K) (tVar 2) (tC (.int 1))) tNil))) [2]) [.d (.lst (ps.map pL)), .d (.int f), .no, .no] (.lst (ps.map pT)) := lc_map (f := fPT) (ev_var rfl) hl (fun e he => by
    obtain ⟨p, _, rfl⟩ := List.mem_map.mp he
    exact ⟨pT p, rfl, ev_pT (ev_var rfl)⟩) (fPT_all ps)
  unfold t_law_passed
  refine sv_ifEq (ev_var rfl) ev_int rfl (fun e => sv_retE cL (by subst e; rfl)) fun n0 => ?_
  refine sv_ifEq (ev_var rfl) ev_int rfl (fun e => sv_retE cT (by subst e; rfl)) fun n1 => ?_
  refine sv_ifEq (ev_var rfl) ev_int rfl (fun e => sv_retE (ev_tupL (sl_d cL)) (by subst e; rfl)) fun n2 => ?_
  refine sv_ifEq (ev_var rfl) ev_int rfl (fun e => sv_retE (ev_tupL (sl_d cT)) (by subst e; rfl)) fun n3 => ?_
  have run : ∀ (rs : List Pr) (done : List D), done.length + rs.length ≤ 1000 → Run (Turn1 K W (gName 2) (tIfS (tOr (tTest (tOp (rEqD K) (tCB (rLenA K) (tCons (tVar 3) tNil)) (tC (.int 1)))) (tTest (tOp (rEqD K) (tCB (rLenA K) (tCons (tVar 3) tNil)) (tC (.int 2))))) (tDrop (tBM K "list" rAppend (tVar 3) (tCons (tLst (tCons (tOp (rIxA K) (tVar 2) (tC (.int 0))) (tCons (tOp (rIxA K) (tVar 2) (tC (.int 1))) tNil))) tNil))) (tDrop (tBM K "list" rAppend (tVar 3) (tCons (tTup (tCons (tOp (rIxA K) (tVar 2) (tC (.int 0))) (tCons (tOp (rIxA K) (tVar 2) (tC (.int 1))) tNil))) tNil)))))
      (rs.map pL) (encX (.lst (ps.map pL)) f done) (.nx (encX (.lst (ps.map pL)) f (done ++ mixP1 done.length rs))) := by
    intro rs
    induction rs with
    | nil => intro done _; rw [mixP1, List.append_nil]; exact .nil
    | cons p rs ih =>
      intro done hl
      rw [List.length_cons] at hl
      have ih := ih (done ++ [if done.length = 1 ∨ done.length = 2 then pL p else pT p]) (by rw [List.length_append, List.length_singleton]; omega)
      rw [List.length_append, List.length_singleton, List.append_assoc] at ih
      have hln : EvD K (tCB (rLenA K) (tCons (tVar 3) tNil)) [.d (.lst (ps.map pL)), .d (.int f), .d (pL p), .ol done] (.int (done.length : Int)) := ev_lenL (sl_own rfl)
      refine .go (t1_name (sv_nx (ρ1 := [.d (.lst (ps.map pL)), .d (.int f), .d (pL p), .ol (done ++ [if done.length = 1 ∨ done.length = 2 then pL p else pT p])]) (sv_if (o := .nx _) (tv_or (tv_eqI hln ev_int) fun _ => tv_eqI hln ev_int) (fun hb => ?_) fun hb => ?_) [2] rfl)) ih
      · have hc : done.length = 1 ∨ done.length = 2 := by
          rw [Bool.or_eq_true, beq_iff_eq, beq_iff_eq] at hb
          omega
        rw [if_pos hc]
        exact sv_app (xs := done) rfl (ev_pL (ev_var rfl)) (by omega)
      · have hc : ¬ (done.length = 1 ∨ done.length = 2) := by
          rw [Bool.or_eq_false_iff, beq_eq_false_iff_ne, beq_eq_false_iff_ne] at hb
          omega
        rw [if_neg hc]
        exact sv_app (xs := done) rfl (ev_pT (ev_var rfl)) (by omega)
  have run0 := run ps [] (by simp; omega)
  refine sv_seq (sv_asgL (evl_lst (K := K) av_nil (by decide))) (sv_seq (sv_for (wi_seqL (wi_list (ev_var rfl))) run0) ?_)
  refine sv_frz 3 rfl rfl (sv_retE (ev_var rfl) ?_)
  show D.lst (mixP1 0 ps) = _
  unfold passP
  rw [mixP1_eq, if_neg n0, if_neg n1, if_neg n2, if_neg n3]
def fTL : D → Option D
  | .lst [.str r, .int a, .int b] => some (tL (r, a, b))
  | _ => none
def fTT : D → Option D
  | .lst [.str r, .int a, .int b] => some (tT (r, a, b))
  | _ => none
theorem fTL_all (ps : List Tm) : (ps.map tL).filterMap fTL = ps.map tL := by rw [List.filterMap_map, ← filterMap_some]; rfl
theorem fTT_all (ps : List Tm) : (ps.map tL).filterMap fTT = ps.map tT := by rw [List.filterMap_map, ← filterMap_some]; rfl
abbrev teL (K : PySem.W.Frag) (te : TE) : TE := tLst (tCons (tOp (rIxA K) te (tC (.int 0))) (tCons (tOp (rIxA K) te (tC (.int 1))) (tCons (tOp (rIxA K) te (tC (.int 2))) tNil)))
abbrev teT (K : PySem.W.Frag) (te : TE) : TE := tTup (tCons (tOp (rIxA K) te (tC (.int 0))) (tCons (tOp (rIxA K) te (tC (.int 1))) (tCons (tOp (rIxA K) te (tC (.int 2))) tNil)))
theorem ev_tL {p : Tm} (h : EvD K te ρ (tL p)) : EvD K (teL K te) ρ (tL p) := ev_of_L (evl_lst (av_cons (ev_it0 h (.inl rfl)) (av_cons (ev_it1 h (.inl rfl)) (av_cons (ev_it2 h (.inl rfl)) av_nil))) le3)
theorem ev_tT {p : Tm} (h : EvD K te ρ (tL p)) : EvD K (teT K te) ρ (tT p) := ev_tup (av_cons (ev_it0 h (.inl rfl)) (av_cons (ev_it1 h (.inl rfl)) (av_cons (ev_it2 h (.inl rfl)) av_nil))) le3
def mixT1 : Nat → List Tm → List D
  | _, [] => []
  | n, p :: r => (if n = 1 ∨ n = 2 then tL p else tT p) :: mixT1 (n + 1) r
theorem mixT1_big : ∀ (r : List Tm) (n : Nat), 3 ≤ n → mixT1 n r = r.map tT
  | [], _, _ => rfl
  | p :: r, n, h => by
    rw [mixT1, if_neg (by omega), mixT1_big r (n + 1) (by omega)]; rfl
theorem mixT1_eq (ps : List Tm) : mixT1 0 ps = mixT ps := by
  unfold mixT
  split
  · show tT _ :: tL _ :: tL _ :: mixT1 3 _ = _
    rw [mixT1_big _ 3 (by omega)]
  · rfl
  · rfl
  · rfl
/-! ### is it a sum, a polynomial -/
theorem ev_whole {i : Int} (h : EvD K te ρ (.int i)) : EvD K (tCallS (SpF K P_law_whole.length fr_law_whole) (WE W) (tCons te tNil)) ρ (.bl true) := ev_call (av_cons h av_nil) ⟨.int i, rfl, rfl, rfl⟩
theorem ev_isTup {ds : List D} (h : EvD K te ρ (.tup ds)) : EvD K (tCB (rIsi K) (tCons te (tCons (tC (.ty "tuple")) tNil))) ρ (.bl true) := ev_isi h rfl (kit_tuple rfl)
theorem ev_isStr {s : Str} (h : EvD K te ρ (.str s)) : EvD K (tCB (rIsi K) (tCons te (tCons (tC (.ty "str")) tNil))) ρ (.bl true) := ev_isi h rfl (kit_str rfl)
theorem run_same {step : D → List Sl → Out → Prop} : ∀ (ds : List D), (∀ d ∈ ds, step d ρ (.nx ρ)) → Run step ds ρ (.nx ρ)
  | [], _ => .nil
  | d :: ds, h => .go (h d List.mem_cons_self) (run_same ds fun e he => h e (List.mem_cons_of_mem _ he))
theorem rng_mem {lo : Int} {n : Nat} {d : D} (h : d ∈ rngD lo n) : ∃ i : Nat, i < n ∧ d = .int (lo + i) := by
  unfold rngD at h
  obtain ⟨i, hi, rfl⟩ := List.mem_map.mp h
  exact ⟨i, List.mem_range.mp hi, rfl⟩
theorem pr_law_is_poly (W : WX) (ds : List D) (r : Res) (h : fr_law_is_poly ds r) : FnEnd K W (t_law_is_poly K W) (entry N_law_is_poly ds) r := by
  obtain ⟨P, la, asc, hne, rfl, rfl⟩ := h
  left
  show SvD K W (t_law_is_poly K W) [.d (ePoly P), .no, .no] _
  unfold t_law_is_poly
  refine sv_notCall (ev_isTup (ev_var rfl)) (sv_seq (sv_for (wi_seqT (wi_tup (ev_var rfl))) (run_same (P.map pT) fun e he => ?_)) (sv_seq (sv_for (wi_rng2 (i := 1) (j := (P.map pT).length) (av_cons ev_int (av_cons (ev_lenT (st_d (ev_var rfl))) av_nil)) (by omega) (by rw [List.length_map]; omega)) (run_same _ fun e he => ?_)) (sv_ret ev_bl)))
  · obtain ⟨t, ht, rfl⟩ := List.mem_map.mp he
    have hv : EvD K (tVar 1) [.d (ePoly P), .d (pT t), .no] (pT t) := ev_var rfl
    have hne := hne t ht
    have i0 : EvD K (tOp (rIxA K) (tVar 1) (tC (.int 0))) [.d (ePoly P), .d (pT t), .no] (.int t.1) := ev_ixT (i := 0) (st_d hv) ev_int rfl
    have i1 : EvD K (tOp (rIxA K) (tVar 1) (tC (.int 1))) [.d (ePoly P), .d (pT t), .no] (.int t.2) := ev_ixT (i := 1) (st_d hv) ev_int rfl
    refine t1_name (sv_nx (sv_seq (sv_ifF (tv_or (a := false) (b := false) (tv_not (tv_B (ev_isTup hv))) fun _ => tv_neI (i := 2) (j := 2) (ev_lenT (st_d hv)) ev_int) sv_next) (sv_ifF (tv_or (a := false) (b := false) (tv_not (tv_B (ev_whole i0))) fun _ => tv_or (a := false) (b := false) (tv_not (tv_B (ev_whole i1))) fun _ => tv_eq (tv_eqI i1 ev_int) (by simpa using hne)) sv_next)) [1] rfl)
  · obtain ⟨i, hi, rfl⟩ := rng_mem he
    have hi' : i + 1 < P.length := by rw [List.length_map] at hi; omega
    have e1 : P[i]? = some P[i] := List.getElem?_eq_getElem (by omega)
    have e2 : P[i + 1]? = some P[i + 1] := List.getElem?_eq_getElem hi'
    have h0 : EvST K (tVar 0) [.d (ePoly P), .no, .d (.int (1 + (i : Int)))] (P.map pT) := st_d (ev_var rfl)
    have a1 : EvD K (tOp (rIxA K) (tVar 0) (tOp (rI0 fun i j => .int (i - j)) (tVar 2) (tC (.int 1)))) [.d (ePoly P), .no, .d (.int (1 + (i : Int)))] (pT P[i]) := ev_ixT (i := (i : Int)) h0 (ev_eq (ev_subI (ev_var rfl) ev_int) (by congr 1; omega)) (atI_nat (by rw [List.getElem?_map, e1]; rfl))
    have a2 : EvD K (tOp (rIxA K) (tVar 0) (tVar 2)) [.d (ePoly P), .no, .d (.int (1 + (i : Int)))] (pT P[i + 1]) := ev_ixT (i := ((i + 1 : Nat) : Int)) h0 (ev_eq (ev_var rfl) (by congr 1; omega)) (atI_nat (by rw [List.getElem?_map, e2]; rfl))
    have lt : P[i].1 < P[i + 1].1 := List.pairwise_iff_getElem.mp asc i (i + 1) (by omega) hi' (by omega)
    refine t1_name (sv_nx (sv_ifF (tv_eq (tv_cmpI (g := fun i j => decide (j ≤ i)) (i := P[i].1) (j := P[i + 1].1) (ev_ixT (i := 0) (st_d a1) ev_int rfl) (ev_ixT (i := 0) (st_d a2) ev_int rfl)) (by simp only [decide_eq_false_iff_not]; omega)) sv_next) [2] rfl)
end
end Go
set_option Elab.async false
set_option linter.all false
set_option maxRecDepth 100000
set_option maxHeartbeats 1000000
namespace Go
open PySem PySem.Spec PyProof.Rows L2 DL
section
variable {K : PySem.W.Frag} {W : WX} {ρ : List Sl} {te ta tb : TE} {d : D}
/-! ### _law_coefficient -/
theorem pr_law_coefficient (W : WX) (ds : List D) (r : Res) (h : fr_law_coefficient ds r) : FnEnd K W (t_law_coefficient K W) (entry N_law_coefficient ds) r := by
  obtain ⟨k, a, b, a0, a1, b0, b1, rfl, rfl⟩ := h
  left
  show SvD K W (t_law_coefficient K W) [.d (.int k), .d (.int a), .d (.int b)] _
  have va : EvD K (tCB rIntC (tCons (tVar 1) tNil)) [.d (.int k), .d (.int a), .d (.int b)] (.int a) := ev_intC (ev_var rfl)
  unfold t_law_coefficient
  refine sv_ifEq (ev_var rfl) ev_int rfl (fun e => sv_retE ev_int (by unfold coefM; rw [if_pos e])) fun n0 => ?_
  refine sv_ifLt (ev_var rfl) ev_int rfl (fun e => sv_retE (ev_subI (ev_modI va ev_int (by decide)) ev_int) (by unfold coefM; rw [if_neg n0, if_pos e])) fun n1 => ?_
  refine sv_ifEq (ev_var rfl) ev_int rfl (fun e => sv_retE (ev_nthI (l := [1, -1]) (sl_d (ev_of_L (evl_lst (av_cons ev_int (av_cons (ev_neg ev_int) av_nil)) le2))) (ev_modI va ev_int (by decide)) (by omega) (by show a % 2 < 2; omega)) ?_) fun n2 => ?_
  · unfold coefM
    rw [if_neg n0, if_neg n1, if_pos e]
    have h : a % 2 = 0 ∨ a % 2 = 1 := by omega
    rcases h with h | h <;> rw [h] <;> rfl
  refine sv_ifEq (ev_var rfl) ev_int rfl (fun e => sv_retE (ev_mulI ev_int (ev_subI (ev_modI va ev_int (by decide)) ev_int) (mul_s (by decide) (by omega))) (by unfold coefM; rw [if_neg n0, if_neg n1, if_neg n2, if_pos e])) fun n3 => ?_
  refine sv_ifEq (ev_var rfl) ev_int rfl (fun e => sv_retE (ev_subI (ev_modI va ev_int (by decide)) ev_int) (by unfold coefM; rw [if_neg n0, if_neg n1, if_neg n2, if_neg n3, if_pos e])) fun n4 => ?_
  refine sv_ifEq (ev_var rfl) ev_int rfl (fun e => sv_retE (ev_nthI (l := [1000000000, -1000000000, 999999999, -999999999, 999999937, -536870912]) (sl_d (ev_of_L (evl_lst (av_cons ev_p109 (av_cons (ev_neg ev_p109) (av_cons (ev_subI ev_p109 ev_int) (av_cons (ev_subI ev_int ev_p109) (av_cons ev_int (av_cons (ev_neg ev_int) av_nil)))))) (by decide)))) (ev_modI va ev_int (by decide)) (by omega) (by show a % 6 < 6; omega)) (by unfold coefM; rw [if_neg n0, if_neg n1, if_neg n2, if_neg n3, if_neg n4, if_pos e]; rfl)) fun n5 => ?_
  refine sv_ifEq (ev_var rfl) ev_int rfl (fun e => sv_retE (ev_subI (ev_modI (ev_intC (ev_addI (ev_var rfl) (ev_mulI ev_int (ev_var rfl) (mul_s (by decide) (by omega))))) ev_int (by decide)) ev_p109) (by unfold coefM; rw [if_neg n0, if_neg n1, if_neg n2, if_neg n3, if_neg n4, if_neg n5, if_pos e])) fun n6 => ?_
  refine sv_ifEq (ev_var rfl) ev_int rfl (fun e => sv_retE (ev_subI (ev_modI va ev_int (by decide)) ev_int) (by unfold coefM; rw [if_neg n0, if_neg n1, if_neg n2, if_neg n3, if_neg n4, if_neg n5, if_neg n6, if_pos e])) fun n7 => ?_
  exact sv_retE (ev_mulI ev_int (ev_subI (ev_modI va ev_int (by decide)) ev_int) (mul_s (by decide) (by omega))) (by unfold coefM; rw [if_neg n0, if_neg n1, if_neg n2, if_neg n3, if_neg n4, if_neg n5, if_neg n6, if_neg n7])
/-! ### raw terms -/
theorem szT_ok : ∀ s ∈ szT, 0 < s ∧ s < 1073741824 := by decide +kernel
theorem szN_ok : ∀ s ∈ szN, 0 < s ∧ s < 1073741824 := by decide +kernel
theorem szP_ok : ∀ s ∈ szP, 0 < s ∧ s < 1073741824 := by decide +kernel
end
end Go
set_option Elab.async false
set_option linter.all false
set_option maxRecDepth 100000
set_option maxHeartbeats 1000000
namespace Go
open PySem PySem.Spec PyProof.Rows L2 DL
section
variable {K : PySem.W.Frag} {W : WX} {ρ : List Sl} {te ta tb : TE} {d : D}
/-! ### pieces of a row -/
/-! ### drawn pairs -/
theorem manyP_bound {row : List Int} (h : rowOk szP row) : 0 ≤ manyP row ∧ manyP row ≤ 40 := by
  have h0 := row_at (k := 0) (s := 8) h (by decide +kernel)
  have h1 := row_at (k := 1) (s := 41) h (by decide +kernel)
  unfold manyP
  have t : ∀ n : Nat, n < 8 → nth [0, 1, 1, 2, 2, 2, 3, 3] n = 0 ∨ nth [0, 1, 1, 2, 2, 2, 3, 3] n = 1 ∨ nth [0, 1, 1, 2, 2, 2, 3, 3] n = 2 ∨ nth [0, 1, 1, 2, 2, 2, 3, 3] n = 3 := by decide
  rcases t (nth row 0).toNat (by omega) with e | e | e | e <;> rw [e]
  · show 0 ≤ nth row 1 ∧ nth row 1 ≤ 40; omega
  · show 0 ≤ nth row 1 % 9 ∧ nth row 1 % 9 ≤ 40; omega
  · show 0 ≤ nth row 1 % 5 ∧ nth row 1 % 5 ≤ 40; omega
  · show (0 : Int) ≤ 1 ∧ (1 : Int) ≤ 40; omega
def pairAt (row : List Int) (k : Nat) : Pr := ((nth row 2 + nth row (4 + 4 * k) % nth [2, 3, 5, 41] (nth row 3).toNat) % 41 - 20, coefM (nth row (4 + 4 * k + 1)) (nth row (4 + 4 * k + 2)) (nth row (4 + 4 * k + 3)))
def encG (c : Int) (row : List Int) (many : Int) (k : Nat) : List Sl := [.d (.int c), .d (.lst (row.map D.int)), .d (.int many), .ol (((List.range k).map (pairAt row)).map pL), .no, .no, .no]
end
end Go
set_option Elab.async false
set_option linter.all false
set_option maxRecDepth 100000
set_option maxHeartbeats 1000000
namespace Go
open PySem PySem.Spec PyProof.Rows L2 DL
section
variable {K : PySem.W.Frag} {W : WX} {ρ : List Sl} {te ta tb : TE} {d : D}
/-! ### drawn terms -/
theorem manyT_bound {row : List Int} (h : rowOk szT row) : 0 ≤ manyT row ∧ manyT row ≤ 60 := by
  have h0 := row_at (k := 0) (s := 12) h (by decide +kernel)
  have h1 := row_at (k := 1) (s := 61) h (by decide +kernel)
  unfold manyT
  have t : ∀ n : Nat, n < 12 → nth [0, 1, 2, 2, 2, 3, 3, 3, 3, 3, 3, 4] n = 0 ∨ nth [0, 1, 2, 2, 2, 3, 3, 3, 3, 3, 3, 4] n = 1 ∨ nth [0, 1, 2, 2, 2, 3, 3, 3, 3, 3, 3, 4] n = 2 ∨ nth [0, 1, 2, 2, 2, 3, 3, 3, 3, 3, 3, 4] n = 3 ∨ nth [0, 1, 2, 2, 2, 3, 3, 3, 3, 3, 3, 4] n = 4 := by decide
  show 0 ≤ nth [nth row 1, 60, nth row 1 % 17, 2 + nth row 1 % 9, nth row 1 % 3] _ ∧ _
  rcases t (nth row 0).toNat (by omega) with e | e | e | e | e <;> rw [e]
  · show 0 ≤ nth row 1 ∧ nth row 1 ≤ 60; omega
  · show (0 : Int) ≤ 60 ∧ (60 : Int) ≤ 60; omega
  · show 0 ≤ nth row 1 % 17 ∧ nth row 1 % 17 ≤ 60; omega
  · show 0 ≤ 2 + nth row 1 % 9 ∧ 2 + nth row 1 % 9 ≤ 60; omega
  · show 0 ≤ nth row 1 % 3 ∧ nth row 1 % 3 ≤ 60; omega
def wideT (row : List Int) : Int := nth [2, 3, 4, 5, 6, 8, 1, 41] (nth row 3).toNat
def termAt (ns : List Str) (row : List Int) (k : Nat) : Tm :=
  (ns.getD (nth row (7 + 5 * k) % (1 + nth row 6)).toNat "", (nth row 2 + nth row (7 + 5 * k + 1) % wideT row) % 41 - 20, coefM (nth row (7 + 5 * k + 2)) (nth row (7 + 5 * k + 3)) (nth row (7 + 5 * k + 4)))
theorem baseT_eq (ns : List Str) (row : List Int) : baseT ns row = (List.range (manyT row).toNat).map (termAt ns row) := by
  unfold baseT termAt wideT
  refine List.map_congr_left fun k _ => ?_
  rw [show 8 + 5 * k = 7 + 5 * k + 1 from by omega, show 9 + 5 * k = 7 + 5 * k + 2 from by omega, show 10 + 5 * k = 7 + 5 * k + 3 from by omega, show 11 + 5 * k = 7 + 5 * k + 4 from by omega]
def menuT (row : List Int) : List Int := [nth row 1, 60, nth row 1 % 17, 2 + nth row 1 % 9, nth row 1 % 3]
def encH (ns : List Str) (row : List Int) (k : Nat) : List Sl := [.d (.lst (ns.map D.str)), .d (.lst (row.map D.int)), .ol ((menuT row).map D.int), .d (.int (manyT row)), .d (.int (wideT row)), .ol (((List.range k).map (termAt ns row)).map tL), .no, .no, .no, .no, .no, .no]
def fNg : D → Option D
  | .lst [.str r, .int a, .int b] => some (tL (r, a, -b))
  | _ => none
def fSc (f : Int) : D → Option D
  | .lst [.str r, .int a, .int b] => some (tL (r, a, b * f))
  | _ => none
def fAb (f : Int) : D → Option D
  | .lst [.str _, .int _, .int b] => some (.int (if b * f < 0 then -(b * f) else b * f))
  | _ => none
theorem fNg_all (ts : List Tm) : (ts.map tL).filterMap fNg = (negT ts).map tL := by unfold negT; rw [List.filterMap_map, List.map_map, ← filterMap_some]; rfl
theorem fSc_all (f : Int) (ts : List Tm) : (ts.map tL).filterMap (fSc f) = (sclT f ts).map tL := by unfold sclT; rw [List.filterMap_map, List.map_map, ← filterMap_some]; rfl
theorem fAb_all (f : Int) (ts : List Tm) : (ts.map tL).filterMap (fAb f) = (ts.map fun t => if t.2.2 * f < 0 then -(t.2.2 * f) else t.2.2 * f).map D.int := by rw [List.filterMap_map, List.map_map, ← filterMap_some]; rfl
theorem ev_tNg {p : Tm} (h : EvD K te ρ (tL p)) : EvD K (tLst (tCons (tOp (rIxA K) te (tC (.int 0))) (tCons (tOp (rIxA K) te (tC (.int 1))) (tCons (tUn (rU fun i => .int (-i)) (tOp (rIxA K) te (tC (.int 2)))) tNil)))) ρ (tL (p.1, p.2.1, -p.2.2)) := ev_of_L (evl_lst (av_cons (ev_it0 (t := p) h (.inl rfl)) (av_cons (ev_it1 (t := p) h (.inl rfl)) (av_cons (ev_neg (ev_it2 (t := p) h (.inl rfl))) av_nil))) le3)
end
end Go
set_option Elab.async false
set_option linter.all false
set_option maxRecDepth 100000
set_option maxHeartbeats 1000000
namespace Go
open PySem PySem.Spec PyProof.Rows L2 DL
section
variable {K : PySem.W.Frag} {W : WX} {ρ : List Sl} {te ta tb : TE} {d : D}
/-! ### other terms -/
def fHv : D → Option D
  | .lst [.str r, .int a, .int b] => some (tL (r, a, b / 2))
  | _ => none
def fRs : D → Option D
  | .lst [.str r, .int a, .int b] => some (tL (r, a, b - b / 2))
  | _ => none
theorem fHv_all (ts : List Tm) : (ts.map tL).filterMap fHv = (ts.map fun t => (t.1, t.2.1, t.2.2 / 2)).map tL := by rw [List.filterMap_map, List.map_map, ← filterMap_some]; rfl
theorem fRs_all (ts : List Tm) : (ts.map tL).filterMap fRs = (ts.map fun t => (t.1, t.2.1, t.2.2 - t.2.2 / 2)).map tL := by rw [List.filterMap_map, List.map_map, ← filterMap_some]; rfl
def fBk (ts : List Tm) : D → Option D
  | .int k => some (tL (ts.getD (ts.length - 1 - k.toNat) ("", 0, 0)))
  | _ => none
theorem fBk_all (ts : List Tm) : (rngD 0 ts.length).filterMap (fBk ts) = ts.reverse.map tL := by
  unfold rngD
  rw [List.filterMap_map]
  have : (fBk ts ∘ fun (i : Nat) => D.int (0 + (i : Int))) = fun i : Nat => some (tL (ts.getD (ts.length - 1 - i) ("", 0, 0))) := by
    funext i
    show some (tL (ts.getD (ts.length - 1 - (0 + (i : Int)).toNat) ("", 0, 0))) = _
    rw [show (0 + (i : Int)).toNat = i from by omega]
  rw [this, filterMap_some]
  apply List.ext_getElem
  · simp
  · intro i h1 h2
    simp at h1 h2
    simp only [List.getElem_map, List.getElem_range, List.getElem_reverse]
    rw [List.getD_eq_getElem?_getD, List.getElem?_eq_getElem (by omega)]; rfl
/-! ### names -/
def nameAt (row : List Int) (k : Nat) : Str := cutS (fullM row k) none (some (1 + nth row (1 + 11 * k)))
theorem ev_sign {i : Int} (h : EvD K te ρ (.str signs)) (hb : EvD K tb ρ (.int i)) (h0 : 0 ≤ i) (h1 : i < 36) : EvD K (tOp (rIxA K) te tb) ρ (.str (signAt i)) := by
  have ls : signs.cps.toList.length = 36 := by decide +kernel
  have hi : i.toNat < signs.cps.toList.length := by omega
  refine ev_ixS (i := i) h hb (by decide +kernel) ?_
  have e : i = (i.toNat : Int) := by omega
  rw [e]
  refine atI_nat ?_
  rw [List.getD_eq_getElem?_getD, show ((i.toNat : Int)).toNat = i.toNat from rfl, List.getElem?_eq_getElem hi]; rfl
theorem len_sign (i : Int) : (signAt i).length = 1 := rfl
theorem len_join (l : List Str) (h : ∀ s ∈ l, s.length = 1) : (Txt.join "" l).length = l.length := by
  have e := PySem.size_glued "" l
  show (PySem.Builtin.Str.glued "" l).length = _
  rw [e]
  have e2 : (l.map (·.length)).sum = l.length := by
    clear e
    induction l with
    | nil => rfl
    | cons s l ih => rw [List.map_cons, List.sum_cons, h s List.mem_cons_self, ih fun x hx => h x (List.mem_cons_of_mem _ hx), List.length_cons]; omega
  rw [e2]
  show l.length + (l.length - 1) * 0 = _
  omega
def fullAt (row : List Int) (k : Nat) : Str := signAt (nth row (1 + 11 * k + 1)) ++ Txt.join "" ((List.range 9).map fun j => signAt (nth row (1 + 11 * k + (2 + j))))
theorem fullM_eq (row : List Int) (k : Nat) : fullM row k = fullAt row k := by
  unfold fullM fullAt
  rw [show 2 + 11 * k = 1 + 11 * k + 1 from by omega]
  congr 2
  refine List.map_congr_left fun j _ => ?_
  rw [show 3 + 11 * k + j = 1 + 11 * k + (2 + j) from by omega]
theorem len_joinAt (row : List Int) (k : Nat) : (Txt.join "" ((List.range 9).map fun j => signAt (nth row (1 + 11 * k + (2 + j))))).length = 9 := by
  rw [len_join _ fun s hs => by
    obtain ⟨j, _, rfl⟩ := List.mem_map.mp hs
    rfl]
  simp
theorem len_app (a b : Str) : (a ++ b).length = a.length + b.length := by
  show (a.cps ++ b.cps).size = a.cps.size + b.cps.size
  exact Array.size_append
theorem len_fullAt (row : List Int) (k : Nat) : (fullAt row k).length = 10 := by
  unfold fullAt
  rw [len_app, len_joinAt]; rfl
def fJn (row : List Int) (k : Nat) : D → Option D
  | .int j => some (.str (signAt (nth row (1 + 11 * k + (2 + j.toNat)))))
  | _ => none
theorem fJn_all (row : List Int) (k : Nat) : (rngD 0 9).filterMap (fJn row k) = ((List.range 9).map fun j => signAt (nth row (1 + 11 * k + (2 + j)))).map D.str := by
  unfold rngD
  rw [List.filterMap_map, List.map_map, ← filterMap_some]
  refine fm_congr fun i _ => ?_
  show some (D.str (signAt (nth row (1 + 11 * k + (2 + (0 + (i : Int)).toNat))))) = _
  rw [show (0 + (i : Int)).toNat = i from by omega]; rfl
def menusD : List D := menusM.map fun l => .lst (l.map D.str)
def encN (c : Int) (row : List Int) (k : Nat) : List Sl := [.d (.int c), .d (.lst (row.map D.int)), .d (.str signs), .ol menusD, .ol (((List.range k).map fun k => cutS (fullAt row k) none (some (1 + nth row (1 + 11 * k)))).map D.str), .no, .no, .no, .no]
end
end Go
set_option Elab.async false
set_option linter.all false
set_option maxRecDepth 100000
set_option maxHeartbeats 1000000
namespace Go
open PySem PySem.Spec PyProof.Rows L2 DL
section
variable {K : PySem.W.Frag} {W : WX} {ρ : List Sl} {te ta tb : TE} {d : D}
/-! ### _law_alone -/
/-- the rows met so far -/
def rowStep (acc : List Str) (t : Tm) : List Str := if acc = [] ∨ acc.getLast? ≠ some t.1 then acc ++ [t.1] else acc
def rowsF (ts : List Tm) : List Str := ts.foldl rowStep []
theorem rowsM_head : ∀ (t : Tm) (ts : List Tm), ∃ rs, rowsM (t :: ts) = t.1 :: rs
  | t, [] => ⟨[], rfl⟩
  | t, u :: ts => by
    obtain ⟨rs, e⟩ := rowsM_head u ts
    unfold rowsM
    rw [e]
    by_cases h : t.1 = u.1
    · simp only; rw [if_pos h, h]; exact ⟨rs, rfl⟩
    · simp only; rw [if_neg h]; exact ⟨_, rfl⟩
theorem rowsF_from : ∀ (ts : List Tm) (acc : List Str) (r : Str), ts.foldl rowStep (acc ++ [r]) = match rowsM ts with
    | [] => acc ++ [r]
    | s :: rs => if s = r then acc ++ [r] ++ rs else acc ++ [r] ++ s :: rs
  | [], acc, r => rfl
  | t :: ts, acc, r => by
    rw [List.foldl_cons]
    have hs : rowStep (acc ++ [r]) t = if t.1 = r then acc ++ [r] else acc ++ [r] ++ [t.1] := by
      unfold rowStep
      by_cases e : t.1 = r
      · rw [if_pos e, if_neg]
        rintro (h | h)
        · simp at h
        · apply h; rw [e]; simp
      · rw [if_neg e, if_pos]
        right
        simp only [List.getLast?_append, List.getLast?_singleton, Option.some_or]
        intro z; exact e (Option.some.inj z).symm
    rw [hs]
    cases hr : rowsM ts with
    | nil =>
      have e1 : rowsM (t :: ts) = [t.1] := by unfold rowsM; rw [hr]
      rw [e1]
      by_cases e : t.1 = r
      · rw [if_pos e, rowsF_from ts acc r, hr]; simp only; rw [if_pos e, List.append_nil]
      · rw [if_neg e, rowsF_from ts (acc ++ [r]) t.1, hr]; simp only; rw [if_neg e]
    | cons s rs =>
      have e1 : rowsM (t :: ts) = if t.1 = s then s :: rs else t.1 :: s :: rs := by
        conv => lhs; unfold rowsM
        rw [hr]
      rw [e1]
      by_cases e : t.1 = r
      · rw [if_pos e, rowsF_from ts acc r, hr]
        by_cases e2 : t.1 = s
        · rw [if_pos e2]
        · rw [if_neg e2]; simp only; rw [if_pos e, if_neg (fun z => e2 (e.trans z.symm))]
      · rw [if_neg e, rowsF_from ts (acc ++ [r]) t.1, hr]
        by_cases e2 : t.1 = s
        · rw [if_pos e2]; simp only; rw [if_pos e2.symm, if_neg (fun z => e (e2.trans z))]; rw [e2]; simp
        · rw [if_neg e2]; simp only; rw [if_neg (fun z => e2 z.symm), if_neg e]; simp
theorem rowsF_eq (ts : List Tm) : rowsF ts = rowsM ts := by
  cases ts with
  | nil => rfl
  | cons t ts =>
    unfold rowsF
    rw [List.foldl_cons]
    have h0 : rowStep [] t = [] ++ [t.1] := by unfold rowStep; rw [if_pos (.inl rfl)]
    rw [h0, rowsF_from ts [] t.1]
    cases hr : rowsM ts with
    | nil => unfold rowsM; rw [hr]; rfl
    | cons s rs =>
      conv => rhs; unfold rowsM
      rw [hr]
      simp only [List.nil_append]
      by_cases e : s = t.1
      · rw [if_pos e, if_pos e.symm, e]; rfl
      · rw [if_neg e, if_neg (fun z => e z.symm)]; rfl
theorem rowsM_names : ∀ {ts : List Tm} {s : Str}, s ∈ rowsM ts → ∃ t ∈ ts, t.1 = s
  | t :: ts, s, h => by
    unfold rowsM at h
    cases hr : rowsM ts with
    | nil =>
      rw [hr] at h
      rcases List.mem_cons.mp h with e | e
      · exact ⟨t, List.mem_cons_self, e.symm⟩
      · cases e
    | cons r rs =>
      rw [hr] at h
      simp only at h
      have hrec : s ∈ r :: rs → ∃ t' ∈ t :: ts, t'.1 = s := fun z => by
        obtain ⟨u, hu, e⟩ := rowsM_names (ts := ts) (s := s) (by rw [hr]; exact z)
        exact ⟨u, List.mem_cons_of_mem _ hu, e⟩
      by_cases e : t.1 = r
      · rw [if_pos e] at h; exact hrec h
      · rw [if_neg e] at h
        rcases List.mem_cons.mp h with z | z
        · exact ⟨t, List.mem_cons_self, z.symm⟩
        · exact hrec z
def encA0 (d : D) (L : List Tm) (ns : List Str) (acc : List Str) : List Sl := [.d d, .d (eDict L), .d (.lst (ns.map D.str)), .ol (acc.map D.str), .no, .no, .no, .no]
abbrev tbR (K : PySem.W.Frag) : TS := tIfS (tOr (tTest (tOp (rEqD K) (tCB (rLenA K) (tCons (tVar 3) tNil)) (tC (.int 0)))) (tTest (tOp (rNeD K) (tOp (rIxA K) (tVar 3) (tUn (rU fun i => .int (-i)) (tC (.int 1)))) (tOp (rIxA K) (tVar 4) (tC (.int 0)))))) (tDrop (tBM K "list" rAppend (tVar 3) (tCons (tOp (rIxA K) (tVar 4) (tC (.int 0))) tNil))) tNext
theorem atI_last {α : Type} {l : List α} {a : α} : atI (l ++ [a]) (-1) = some a := by
  unfold atI
  have : ixN (l ++ [a]).length (-1) = some l.length := by
    unfold ixN
    rw [List.length_append, List.length_singleton, if_neg (by decide), if_pos (by omega)]
    congr 1
    omega
  rw [this]
  simp
theorem run_rows (d : D) (L : List Tm) (ns : List Str) : ∀ (ts : List Tm) (acc : List Str), NOk ts → (∀ s ∈ acc, PyData.strOk s = true) → acc.length + ts.length ≤ 4000000 → Run (Turn1 K W (gName 4) (tbR K)) ((ts.map Tm.k).map tupK) (encA0 d L ns acc) (.nx (encA0 d L ns (ts.foldl rowStep acc)))
  | [], acc, _, _, _ => .nil
  | t :: ts, acc, ok, oka, hl => by
    rw [List.length_cons] at hl
    have okt := ok t List.mem_cons_self
    have hs : (rowStep acc t).length ≤ acc.length + 1 := by unfold rowStep; split <;> simp
    have oks : ∀ s ∈ rowStep acc t, PyData.strOk s = true := fun s h => by
      unfold rowStep at h
      split at h
      · rcases List.mem_append.mp h with z | z
        · exact oka s z
        · rw [List.mem_singleton.mp z]; exact okt
      · exact oka s h
    have ih := run_rows d L ns ts (rowStep acc t) (fun u hu => ok u (List.mem_cons_of_mem _ hu)) oks (by omega)
    have h4 : EvD K (tOp (rIxA K) (tVar 4) (tC (.int 0))) ((encA0 d L ns acc).set 4 (.d (tupK t.k))) (.str t.1) := ev_ixT (i := 0) (st_d (ev_var rfl)) ev_int rfl
    have hlen : EvD K (tCB (rLenA K) (tCons (tVar 3) tNil)) ((encA0 d L ns acc).set 4 (.d (tupK t.k))) (.int ((acc.map D.str).length : Int)) := ev_lenL (sl_own rfl)
    rw [List.length_map] at hlen
    have app : SvD K W (tDrop (tBM K "list" rAppend (tVar 3) (tCons (tOp (rIxA K) (tVar 4) (tC (.int 0))) tNil))) ((encA0 d L ns acc).set 4 (.d (tupK t.k))) (.nx (((encA0 d L ns acc).set 4 (.d (tupK t.k))).set 3 (.ol (acc.map D.str ++ [.str t.1])))) := sv_app (xs := acc.map D.str) rfl h4 (by rw [List.length_map]; omega)
    have fin : acc = [] ∨ acc.getLast? ≠ some t.1 → wipeS (((encA0 d L ns acc).set 4 (.d (tupK t.k))).set 3 (.ol (acc.map D.str ++ [.str t.1]))) [4] = encA0 d L ns (rowStep acc t) := fun h => by
      unfold rowStep
      rw [if_pos h]
      unfold encA0
      rw [List.map_append]; rfl
    by_cases he : acc = []
    · exact .go (t1_name (sv_nx (sv_ifT (tv_or (a := true) (b := true) (tv_eq (tv_eqI hlen ev_int) (by rw [he]; rfl)) (fun z => nomatch z)) app) [4] (fin (.inl he)))) ih
    · obtain ⟨l, a, e⟩ : ∃ l a, acc = l ++ [a] := ⟨acc.dropLast, acc.getLast he, (List.dropLast_concat_getLast he).symm⟩
      have h3 : EvD K (tOp (rIxA K) (tVar 3) (tUn (rU fun i => .int (-i)) (tC (.int 1)))) ((encA0 d L ns acc).set 4 (.d (tupK t.k))) (.str a) := ev_ixL (i := -1) (sl_own rfl) (ev_neg ev_int) (by rw [e, List.map_append]; exact atI_last)
      have oa : PyData.strOk a = true := oka a (by rw [e]; simp)
      have hn0 : ((acc.length : Int) == 0) = false := by
        rw [beq_eq_false_iff_ne, e, List.length_append, List.length_singleton]; omega
      have tt := tv_or (tu := tTest (tOp (rNeD K) (tOp (rIxA K) (tVar 3) (tUn (rU fun i => .int (-i)) (tC (.int 1)))) (tOp (rIxA K) (tVar 4) (tC (.int 0))))) (b := !PyData.eqv (D.str a).py (D.str t.1).py) (tv_eq (tv_eqI hlen ev_int) hn0) fun _ => tv_neD h3 h4 ((Sh.str oa).ok (by decide)) ((Sh.str okt).ok (by decide))
      have ev : PyData.eqv (D.str a).py (D.str t.1).py = (a == t.1) := rfl
      rw [ev, Bool.false_or] at tt
      have gl : acc.getLast? = some a := by rw [e]; simp
      by_cases hc : a = t.1
      · have e2 : rowStep acc t = acc := by
          unfold rowStep
          rw [if_neg]
          rintro (z | z)
          · exact he z
          · rw [gl, hc] at z; exact z rfl
        rw [e2] at ih
        rw [List.foldl_cons, e2]
        exact .go (t1_name (sv_nx (sv_ifF (tv_eq tt (by rw [hc]; simp)) sv_next) [4] rfl)) ih
      · exact .go (t1_name (sv_nx (sv_ifT (tv_eq tt (by simpa using hc)) app) [4] (fin (.inr (by rw [gl]; exact fun z => hc (Option.some.inj z)))))) ih
def fPt (a : List (Kk × Int)) (n : Str) : D → Option D
  | .tup [.str r, .int s] => if r = n then some (pT (s, (gget a (r, s)).getD 0)) else none
  | _ => none
theorem part_asc {L : List Tm} (h : Can L) (n : Str) : (partM L n).Pairwise (fun a b => a.1 < b.1) := by
  unfold partM
  refine List.Pairwise.filterMap _ (fun t u hlt p hp q hq => ?_) h.lt
  by_cases e1 : t.1 = n
  · rw [if_pos e1] at hp
    by_cases e2 : u.1 = n
    · rw [if_pos e2] at hq
      cases hp; cases hq
      unfold ltT ltK at hlt
      rw [if_pos (show (Tm.k t).1 = (Tm.k u).1 from e1.trans e2.symm)] at hlt
      exact of_decide_eq_true hlt
    · rw [if_neg e2] at hq; cases hq
  · rw [if_neg e1] at hp; cases hp
theorem part_ne {L : List Tm} (h : Can L) (n : Str) : ∀ p ∈ partM L n, p.2 ≠ 0 := fun p hp => by
  obtain ⟨t, ht, e⟩ := List.mem_filterMap.mp hp
  by_cases e1 : t.1 = n
  · rw [if_pos e1] at e; cases e; exact h.ne t ht
  · rw [if_neg e1] at e; cases e
theorem sh_strs {l : List Str} (h : ∀ s ∈ l, PyData.strOk s = true) : Sh 2 (.lst (l.map D.str)) := Sh.lst fun d hd => by
  obtain ⟨s, hs, rfl⟩ := List.mem_map.mp hd
  exact .str (h s hs)
end
end Go
set_option Elab.async false
set_option linter.all false
set_option maxRecDepth 100000
set_option maxHeartbeats 1000000
namespace Go
open PySem PySem.Spec PyProof.Rows L2 DL
/-! ### names are good -/
theorem ok_iff (s : Str) : PyData.strOk s = true ↔ ∀ c ∈ s.cps.toList, c < 0x110000 := by
  unfold PyData.strOk
  rw [← Array.all_toList, List.all_eq_true]
  simp
theorem ok_app {a b : Str} (ha : PyData.strOk a = true) (hb : PyData.strOk b = true) : PyData.strOk (a ++ b) = true := by
  rw [ok_iff] at *
  intro c hc
  have : (a ++ b).cps.toList = a.cps.toList ++ b.cps.toList := by
    show (a.cps ++ b.cps).toList = _
    exact Array.toList_append
  rw [this] at hc
  rcases List.mem_append.mp hc with h | h
  · exact ha c h
  · exact hb c h
theorem ok_join {l : List Str} (h : ∀ s ∈ l, PyData.strOk s = true) : PyData.strOk (Txt.join "" l) = true := by
  rw [ok_iff]
  show ∀ c ∈ ((l.drop 1).foldl (fun acc p => acc ++ ("" : Str).cps ++ p.cps) (l.headD Str.empty).cps).toList, c < 0x110000
  have step : ∀ (r : List Str) (acc : Array Nat), (∀ s ∈ r, PyData.strOk s = true) → (∀ c ∈ acc.toList, c < 0x110000) → ∀ c ∈ (r.foldl (fun acc p => acc ++ ("" : Str).cps ++ p.cps) acc).toList, c < 0x110000 := by
    intro r
    induction r with
    | nil => intro acc _ h; exact h
    | cons p r ih =>
      intro acc hr ha
      rw [List.foldl_cons]
      refine ih _ (fun s hs => hr s (List.mem_cons_of_mem _ hs)) fun c hc => ?_
      rw [Array.toList_append, Array.toList_append] at hc
      rcases List.mem_append.mp hc with z | z
      · rcases List.mem_append.mp z with z | z
        · exact ha c z
        · cases z
      · exact (ok_iff p).mp (hr p List.mem_cons_self) c z
  cases l with
  | nil => intro c hc; cases hc
  | cons p r => exact step r _ (fun s hs => h s (List.mem_cons_of_mem _ hs)) ((ok_iff p).mp (h p List.mem_cons_self))
theorem ok_cut {s : Str} (h : PyData.strOk s = true) (lo hi : Option Int) : PyData.strOk (cutS s lo hi) = true := by
  rw [ok_iff] at *
  intro c hc
  exact h c (List.mem_of_mem_drop (List.mem_of_mem_take hc))
theorem ok_sign (i : Int) : PyData.strOk (signAt i) = true := by
  rw [ok_iff]
  intro c hc
  have e : c = (signs.cps.toList).getD i.toNat 0 := by
    have : c ∈ [(signs.cps.toList).getD i.toNat 0] := hc
    simpa using this
  have all : ∀ x ∈ 0 :: signs.cps.toList, x < 0x110000 := by decide +kernel
  refine all c ?_
  rw [e, List.getD_eq_getElem?_getD]
  cases h : signs.cps.toList[i.toNat]? with
  | none => exact List.mem_cons_self
  | some v => exact List.mem_cons_of_mem _ (List.mem_of_getElem? h)
theorem namesM_ok (c : Int) : (namesM c).length = 6 ∧ ∀ n ∈ namesM c, PyData.strOk n = true := by
  have hr : rowOk szN (digM c szN) := rowOk_dig c fun s hs => (szN_ok s hs).1
  have r0 := row_at (k := 0) (s := 7) hr (by decide +kernel)
  unfold namesM
  simp only
  by_cases h : nth (digM c szN) 0 < 5
  · rw [if_pos h]
    have : ∀ n : Nat, n < 5 → (menusM.getD n []).length = 6 ∧ ∀ s ∈ menusM.getD n [], PyData.strOk s = true := by decide +kernel
    exact this _ (by omega)
  · rw [if_neg h]
    refine ⟨by simp, fun n hn => ?_⟩
    obtain ⟨k, _, rfl⟩ := List.mem_map.mp hn
    refine ok_cut ?_ _ _
    rw [fullM_eq]
    refine ok_app (ok_sign _) (ok_join fun s hs => ?_)
    obtain ⟨j, _, rfl⟩ := List.mem_map.mp hs
    exact ok_sign _
/-! ### which rows occur -/
def InN (ns : List Str) (ts : List Tm) : Prop := ∀ t ∈ ts, t.1 ∈ ("" : Str) :: ns
theorem getD_in (ns : List Str) (i : Nat) : ns.getD i "" ∈ ("" : Str) :: ns := by
  rw [List.getD_eq_getElem?_getD]
  cases h : ns[i]? with
  | none => exact List.mem_cons_self
  | some v => exact List.mem_cons_of_mem _ (List.mem_of_getElem? h)
section
variable {ns : List Str}
theorem InN.app {a b : List Tm} (ha : InN ns a) (hb : InN ns b) : InN ns (a ++ b) := fun t ht => by
  rcases List.mem_append.mp ht with h | h
  · exact ha t h
  · exact hb t h
theorem InN.map {a : List Tm} (ha : InN ns a) {f : Tm → Tm} (hf : ∀ t, (f t).1 = t.1) : InN ns (a.map f) := fun t ht => by
  obtain ⟨u, hu, rfl⟩ := List.mem_map.mp ht
  rw [hf]; exact ha u hu
theorem InN.take {a : List Tm} (ha : InN ns a) (n : Nat) : InN ns (a.take n) := fun t ht => ha t (List.mem_of_mem_take ht)
theorem InN.ord {a : List Tm} (ha : InN ns a) : InN ns (ordM a) := fun t ht => by
  by_cases z : ∃ u ∈ a, u.k = t.k
  · obtain ⟨u, hu, e⟩ := z
    have e' : (u.1, u.2.1) = (t.1, t.2.1) := e
    rw [← (Prod.mk.inj e').1]
    exact ha u hu
  · have := ordM_mem.mp ht
    rw [cf_zero fun u hu e => z ⟨u, hu, e⟩] at this
    exact absurd this.1.symm this.2
theorem InN.mul {ps : List Pr} {a : List Tm} (ha : InN ns a) : InN ns (mulM ps a) := fun t ht => by
  obtain ⟨p, _, h1⟩ := List.mem_flatMap.mp ht
  obtain ⟨u, hu, rfl⟩ := List.mem_map.mp h1
  exact ha u hu
theorem InN.ok {a : List Tm} (ha : InN ns a) (hn : ∀ n ∈ ns, PyData.strOk n = true) : NOk a := fun t ht => by
  rcases List.mem_cons.mp (ha t ht) with e | e
  · rw [e]; decide +kernel
  · exact hn _ e
end
theorem in_base (ns : List Str) (row : List Int) : InN ns (baseT ns row) := fun t ht => by
  obtain ⟨k, _, rfl⟩ := List.mem_map.mp ht
  exact getD_in ns _
theorem in_drawn (ns : List Str) (row : List Int) : InN ns (drawnM ns row) := by
  have hb := in_base ns row
  have hg : ∀ {a : List Tm}, InN ns a → InN ns (negT a) := fun h => h.map fun _ => rfl
  unfold drawnM
  simp only
  split
  · exact hb.app (hg hb)
  · split
    · exact (hg (hb.take _)).app hb
    · split
      · exact hb.map fun _ => rfl
      · exact hb
theorem in_other {ns : List Str} {ts : List Tm} (h : InN ns ts) (d : Int) : InN ns (otherM ts d ns) := by
  unfold otherM
  split
  · exact InN.app (InN.map h (f := fun t => (t.1, t.2.1, t.2.2 - t.2.2 / 2)) fun _ => rfl) (InN.map h (f := fun t => (t.1, t.2.1, t.2.2 / 2)) fun _ => rfl)
  · split
    · refine InN.app (InN.app (fun t ht => ?_) h) fun t ht => ?_
      · rw [List.mem_singleton.mp ht]; exact getD_in ns _
      · rw [List.mem_singleton.mp ht]; exact getD_in ns _
    · exact fun t ht => h t (List.mem_reverse.mp ht)
/-! ### how many rows -/
theorem rowsM_len : ∀ ts : List Tm, (rowsM ts).length ≤ ts.length
  | [] => Nat.le_refl _
  | t :: ts => by
    have ih := rowsM_len ts
    unfold rowsM
    cases h : rowsM ts with
    | nil => simp
    | cons r rs =>
      rw [h] at ih
      rw [List.length_cons] at ih
      simp only
      split
      · rw [List.length_cons, List.length_cons]; omega
      · rw [List.length_cons, List.length_cons, List.length_cons]; omega
theorem nodup_le {α : Type} [DecidableEq α] : ∀ (l m : List α), l.Nodup → (∀ a ∈ l, a ∈ m) → l.length ≤ m.length
  | [], m, _, _ => Nat.zero_le _
  | a :: l, m, nd, h => by
    obtain ⟨n1, n2⟩ := List.nodup_cons.mp nd
    have ha := h a List.mem_cons_self
    have ih := nodup_le l (m.erase a) n2 fun b hb => (List.mem_erase_of_ne (fun e => n1 (by rw [← e]; exact hb))).mpr (h b (List.mem_cons_of_mem _ hb))
    rw [List.length_erase_of_mem ha] at ih
    have : 0 < m.length := List.length_pos_of_mem ha
    rw [List.length_cons]; omega
def ltS (a b : Str) : Prop := a.cps.toList < b.cps.toList
theorem rows_asc : ∀ {L : List Tm}, Can L → (rowsM L).Pairwise ltS
  | [], _ => List.Pairwise.nil
  | t :: L, h => by
    have ih := rows_asc h.tail
    have hl := (List.pairwise_cons.mp h.lt).1
    unfold rowsM
    cases hr : rowsM L with
    | nil => simp
    | cons r rs =>
      rw [hr] at ih
      simp only
      by_cases e : t.1 = r
      · rw [if_pos e]; exact ih
      · rw [if_neg e]
        refine List.pairwise_cons.mpr ⟨fun s hs => ?_, ih⟩
        have lr : ltS t.1 r := by
          obtain ⟨u, hu, eu⟩ := rowsM_names (ts := L) (s := r) (by rw [hr]; exact List.mem_cons_self)
          have := hl u hu
          unfold ltT ltK at this
          rw [if_neg (show ¬ (Tm.k t).1 = (Tm.k u).1 from fun z => e (z.trans eu))] at this
          have := of_decide_eq_true this
          rw [← eu]; exact this
        rcases List.mem_cons.mp hs with z | z
        · rw [z]; exact lr
        · exact List.lt_trans lr ((List.pairwise_cons.mp ih).1 s z)
theorem rows_few {ns : List Str} {L : List Tm} (h : Can L) (hi : InN ns L) : (rowsM L).length ≤ ns.length + 1 := by
  have nd : (rowsM L).Nodup := (rows_asc h).imp fun {a b} hab e => by
    unfold ltS at hab
    rw [e] at hab
    exact List.lt_irrefl _ hab
  have := nodup_le (rowsM L) (("" : Str) :: ns) nd fun s hs => by
    obtain ⟨t, ht, e⟩ := rowsM_names hs
    rw [← e]; exact hi t ht
  simpa using this
/-! ### bounds of what is drawn -/
theorem bd_base (ns : List Str) (row : List Int) : Bd 30 (baseT ns row) := fun t ht => by
  obtain ⟨k, _, rfl⟩ := List.mem_map.mp ht
  have := coefM_bound (nth row (9 + 5 * k)) (nth row (10 + 5 * k)) (nth row (11 + 5 * k))
  show (coefM _ _ _).natAbs < _
  omega
theorem bd_append {B : Nat} {a b : List Tm} (ha : Bd B a) (hb : Bd B b) : Bd B (a ++ b) := fun t ht => by
  rcases List.mem_append.mp ht with h | h
  · exact ha t h
  · exact hb t h
theorem bd_neg {B : Nat} {a : List Tm} (ha : Bd B a) : Bd B (negT a) := fun t ht => by
  obtain ⟨u, hu, rfl⟩ := List.mem_map.mp ht
  have := ha u hu
  show (-u.2.2).natAbs < _
  omega
theorem drawn_bd (ns : List Str) (row : List Int) : Bd 30 (drawnM ns row) := by
  have hb := bd_base ns row
  unfold drawnM
  simp only
  split
  · exact bd_append hb (bd_neg hb)
  · split
    · exact bd_append (bd_neg fun t ht => hb t (List.mem_of_mem_take ht)) hb
    · split
      · rename_i h
        intro t ht
        obtain ⟨u, hu, rfl⟩ := List.mem_map.mp ht
        have := h.2 u hu
        show (u.2.2 * facT row).natAbs < _
        omega
      · exact hb
theorem drawn_len {ns : List Str} {row : List Int} (h : rowOk szT row) : (drawnM ns row).length ≤ 120 := by
  have hm := manyT_bound h
  have hb : (baseT ns row).length ≤ 60 := by
    unfold baseT
    rw [List.length_map, List.length_range]; omega
  have hn : ∀ a : List Tm, (negT a).length = a.length := fun a => List.length_map _
  unfold drawnM
  simp only
  split
  · rw [List.length_append, hn]; omega
  · split
    · rw [List.length_append, hn, List.length_take]; omega
    · split
      · unfold sclT; rw [List.length_map]; omega
      · omega
theorem other_bd {ns : List Str} {ts : List Tm} (h : Bd 30 ts) (d : Int) : Bd 40 (otherM ts d ns) := by
  unfold otherM
  split
  · refine bd_append (fun t ht => ?_) fun t ht => ?_
    · obtain ⟨u, hu, rfl⟩ := List.mem_map.mp ht
      have := h u hu
      show (u.2.2 - u.2.2 / 2).natAbs < _
      omega
    · obtain ⟨u, hu, rfl⟩ := List.mem_map.mp ht
      have := h u hu
      show (u.2.2 / 2).natAbs < _
      omega
  · split
    · refine bd_append (bd_append (fun t ht => ?_) (bd_mono h (by decide))) fun t ht => ?_
      · rw [List.mem_singleton.mp ht]; show (0 : Int).natAbs < 2 ^ 40; decide
      · rw [List.mem_singleton.mp ht]; show (0 : Int).natAbs < 2 ^ 40; decide
    · exact bd_mono (fun t ht => h t (List.mem_reverse.mp ht)) (by decide)
theorem other_len {ns : List Str} {ts : List Tm} (h : ts.length ≤ 120) (d : Int) : (otherM ts d ns).length ≤ 300 := by
  unfold otherM
  split
  · rw [List.length_append, List.length_map, List.length_map]; omega
  · split
    · simp; omega
    · rw [List.length_reverse]; omega
theorem cf_reverse (ts : List Tm) (k : Kk) : cf ts.reverse k = cf ts k := by
  induction ts with
  | nil => rfl
  | cons t ts ih => rw [List.reverse_cons, cf_append, ih]; simp only [cf]; omega
theorem other_cf (ts : List Tm) (d : Int) (ns : List Str) (k : Kk) : cf (otherM ts d ns) k = cf ts k := by
  unfold otherM
  split
  · rw [cf_append]
    induction ts with
    | nil => rfl
    | cons t ts ih =>
      rename_i h
      have : ∀ ts : List Tm, cf (ts.map fun t => (t.1, t.2.1, t.2.2 - t.2.2 / 2)) k + cf (ts.map fun t => (t.1, t.2.1, t.2.2 / 2)) k = cf ts k := by
        intro ts
        induction ts with
        | nil => rfl
        | cons t ts ih =>
          show ((if Tm.k t = k then t.2.2 - t.2.2 / 2 else 0) + cf (ts.map fun t => (t.1, t.2.1, t.2.2 - t.2.2 / 2)) k) + ((if Tm.k t = k then t.2.2 / 2 else 0) + cf (ts.map fun t => (t.1, t.2.1, t.2.2 / 2)) k) = (if Tm.k t = k then t.2.2 else 0) + cf ts k
          rw [← ih]
          split <;> omega
      exact this (t :: ts)
  · split
    · rw [cf_append, cf_append]
      have z : ∀ (s : Str) (i : Int), cf [(s, i, 0)] k = 0 := fun s i => by simp [cf]
      rw [z, z]; omega
    · exact cf_reverse ts k
theorem ord_other (ts : List Tm) (d : Int) (ns : List Str) : ordM (otherM ts d ns) = ordM ts := ordM_eq (other_cf ts d ns)
theorem pairs_len (c : Int) : (pairsM c).length ≤ 40 := by
  have hr : rowOk szP (digM c szP) := rowOk_dig c fun s hs => (szP_ok s hs).1
  have := manyP_bound hr
  unfold pairsM
  rw [List.length_map, List.length_range]; omega
theorem pairs_bd (c : Int) : BdP 30 (pairsM c) := fun p hp => by
  obtain ⟨k, _, rfl⟩ := List.mem_map.mp hp
  have := coefM_bound (nth (digM c szP) (5 + 4 * k)) (nth (digM c szP) (6 + 4 * k)) (nth (digM c szP) (7 + 4 * k))
  show (coefM _ _ _).natAbs < _
  omega
theorem bd_mulM {A B : Nat} {ps : List Pr} {ts : List Tm} (hp : BdP A ps) (ht : Bd B ts) : Bd (A + B) (mulM ps ts) := fun t h => by
  obtain ⟨p, hp', h1⟩ := List.mem_flatMap.mp h
  obtain ⟨u, hu, rfl⟩ := List.mem_map.mp h1
  show (p.2 * u.2.2).natAbs < _
  exact wide_lt (hp p hp') (ht u hu)
end Go
set_option Elab.async false
set_option linter.all false
set_option maxRecDepth 100000
set_option maxHeartbeats 1000000
/-! Polynomials: what their coefficients tell. -/
namespace Go
open PySem PySem.Spec PyProof.Rows L2 DL
def ind (k s : Int) : Int := if s = k then 1 else 0
theorem cp_wt (k : Int) : ∀ ps : List Pr, cp ps k = wt (ind k) ps
  | [] => rfl
  | p :: ps => by
    rw [wt_cons, cp, cp_wt k ps]
    unfold ind
    split <;> omega
theorem cp_poly (ps : List Pr) (k : Int) : cp (polyM ps) k = cp ps k := by rw [cp_wt, cp_wt, wt_poly]
theorem wt_app (g : Int → Int) : ∀ a b : List Pr, wt g (a ++ b) = wt g a + wt g b
  | [], b => by rw [List.nil_append]; show wt g b = 0 + wt g b; omega
  | p :: a, b => by rw [List.cons_append, wt_cons, wt_cons, wt_app g a b]; omega
theorem cp_app (a b : List Pr) (k : Int) : cp (a ++ b) k = cp a k + cp b k := by rw [cp_wt, cp_wt, cp_wt, wt_app]
theorem poly_mem {ps : List Pr} {p : Pr} : p ∈ polyM ps ↔ p.2 = cp ps p.1 ∧ p.2 ≠ 0 := by
  refine ⟨poly_at, fun ⟨h1, h2⟩ => ?_⟩
  have hg := accP_get ps [] p.1
  have h0 : (gget ([] : List (Int × Int)) p.1).getD 0 = 0 := rfl
  rw [h0, Int.zero_add, ← h1] at hg
  unfold polyM
  refine List.mem_filterMap.mpr ⟨p.1, ?_, ?_⟩
  · refine (List.mergeSort_perm _ _).mem_iff.mpr ?_
    cases hv : gget (accP [] ps) p.1 with
    | none => rw [hv] at hg; exact absurd hg.symm h2
    | some v => exact gget_mem hv
  · rw [hg, if_pos h2]
theorem pcan_poly (ps : List Pr) : PCan (polyM ps) := ⟨asc_poly ps, fun p hp => (poly_at hp).2⟩
theorem PCan.tail {p : Pr} {P : List Pr} (h : PCan (p :: P)) : PCan P := ⟨(List.pairwise_cons.mp h.lt).2, fun q hq => h.ne q (List.mem_cons_of_mem _ hq)⟩
theorem cp_none {P : List Pr} {k : Int} (h : ∀ q ∈ P, q.1 ≠ k) : cp P k = 0 := by
  induction P with
  | nil => rfl
  | cons q P ih =>
    rw [cp, if_neg (h q List.mem_cons_self), ih fun u hu => h u (List.mem_cons_of_mem _ hu)]; rfl
theorem pcan_cp : ∀ {P : List Pr}, PCan P → ∀ {p : Pr}, p ∈ P → cp P p.1 = p.2
  | [], _, _, hp => nomatch hp
  | q :: P, h, p, hp => by
    have hl := (List.pairwise_cons.mp h.lt).1
    rw [cp]
    rcases List.mem_cons.mp hp with e | e
    · rw [e, if_pos rfl, cp_none fun u hu z => by have := hl u hu; omega]; omega
    · have := hl p e
      rw [if_neg (by omega), pcan_cp h.tail e]; omega
theorem pcan_mem {P : List Pr} (h : PCan P) {p : Pr} : p ∈ P ↔ p.2 = cp P p.1 ∧ p.2 ≠ 0 := by
  refine ⟨fun hp => ⟨(pcan_cp h hp).symm, h.ne p hp⟩, fun ⟨h1, h2⟩ => ?_⟩
  by_cases z : ∃ q ∈ P, q.1 = p.1
  · obtain ⟨q, hq, e⟩ := z
    have := pcan_cp h hq
    rw [e, ← h1] at this
    have e2 : q = p := Prod.ext e this.symm
    rw [← e2]; exact hq
  · rw [cp_none fun q hq e => z ⟨q, hq, e⟩] at h1
    exact absurd h1 h2
theorem pcan_eq {P Q : List Pr} (hP : PCan P) (hQ : PCan Q) (h : ∀ k, cp P k = cp Q k) : P = Q :=
  asc_eq (fun a b : Pr => a.1 < b.1) (fun a => Int.lt_irrefl _) (fun a b c h1 h2 => Int.lt_trans h1 h2) P Q hP.lt hQ.lt fun p => by rw [pcan_mem hP, pcan_mem hQ, h]
theorem poly_eq {a b : List Pr} (h : ∀ k, cp a k = cp b k) : polyM a = polyM b := pcan_eq (pcan_poly a) (pcan_poly b) fun k => by rw [cp_poly, cp_poly, h]
theorem poly_self {P : List Pr} (h : PCan P) : polyM P = P := pcan_eq (pcan_poly P) h fun k => cp_poly P k
theorem wt_congr {a b : List Pr} (h : ∀ k, cp a k = cp b k) (g : Int → Int) : wt g a = wt g b := by rw [← wt_poly, poly_eq h, wt_poly]
theorem cp_shift (p : Pr) (k : Int) : ∀ qs : List Pr, cp (qs.map fun q => (p.1 + q.1, p.2 * q.2)) k = p.2 * cp qs (k - p.1)
  | [] => by show (0 : Int) = p.2 * 0; omega
  | q :: qs => by
    rw [List.map_cons, cp, cp, cp_shift p k qs, Int.mul_add]
    congr 1
    by_cases e : p.1 + q.1 = k
    · rw [if_pos e, if_pos (by omega)]
    · rw [if_neg e, if_neg (by omega), Int.mul_zero]
theorem cp_mul (k : Int) (qs : List Pr) : ∀ ps : List Pr, cp (mulP ps qs) k = wt (fun s => cp qs (k - s)) ps
  | [] => rfl
  | p :: ps => by
    have e : mulP (p :: ps) qs = (qs.map fun q => (p.1 + q.1, p.2 * q.2)) ++ mulP ps qs := rfl
    rw [e, cp_app, cp_shift, cp_mul k qs ps, wt_cons]
theorem mul_cong {a a' b b' : List Pr} (h : ∀ k, cp a k = cp a' k) (h' : ∀ k, cp b k = cp b' k) (k : Int) : cp (mulP a b) k = cp (mulP a' b') k := by
  rw [cp_mul, cp_mul, wt_congr h]
  congr 1
  funext s
  rw [h']
theorem len_mulP (ps qs : List Pr) : (mulP ps qs).length = ps.length * qs.length := by
  unfold mulP
  induction ps with
  | nil => simp
  | cons p ps ih => rw [List.flatMap_cons, List.length_append, ih, List.length_map, List.length_cons, Nat.add_mul]; omega
theorem bd_mulP {A B : Nat} {ps qs : List Pr} (hp : BdP A ps) (hq : BdP B qs) : BdP (A + B) (mulP ps qs) := fun t h => by
  obtain ⟨p, hp', h1⟩ := List.mem_flatMap.mp h
  obtain ⟨u, hu, rfl⟩ := List.mem_map.mp h1
  exact wide_lt (hp p hp') (hq u hu)
theorem bdP_app {B : Nat} {a b : List Pr} (ha : BdP B a) (hb : BdP B b) : BdP B (a ++ b) := fun t ht => by
  rcases List.mem_append.mp ht with h | h
  · exact ha t h
  · exact hb t h
theorem bdP_mono {B C : Nat} {a : List Pr} (h : BdP B a) (hc : B ≤ C) : BdP C a := fun t ht => Nat.lt_of_lt_of_le (h t ht) (Nat.pow_le_pow_right (by decide) hc)
/-! ### equal polynomials -/
theorem po_po (a : List Pr) : polyM (polyM a) = polyM a := poly_eq (cp_poly a)
theorem po_add (a b : List Pr) : polyM (polyM a ++ polyM b) = polyM (a ++ b) := poly_eq fun k => by rw [cp_app, cp_app, cp_poly, cp_poly]
theorem po_swap (a b : List Pr) : polyM (a ++ b) = polyM (b ++ a) := poly_eq fun k => by rw [cp_app, cp_app]; omega
theorem po_mul (a b : List Pr) : polyM (mulP (polyM a) (polyM b)) = polyM (mulP a b) := poly_eq fun k => mul_cong (cp_poly a) (cp_poly b) k
theorem po_one (s c : Int) (h : c ≠ 0) : polyM [(s, c)] = [(s, c)] := poly_self ⟨List.pairwise_singleton _ _, fun p hp => by rw [List.mem_singleton.mp hp]; exact h⟩
theorem cp_neg (a : List Pr) (k : Int) : cp (mulP [(0, -1)] a) k = -cp a k := by
  rw [cp_mul, wt_cons]
  show (-1) * cp a (k - 0) + 0 = _
  rw [show k - 0 = k from by omega]; omega
theorem po_gone (a : List Pr) : polyM (a ++ polyM (mulP [(0, -1)] a)) = [] := by
  have : polyM (a ++ polyM (mulP [(0, -1)] a)) = polyM [] := poly_eq fun k => by
    rw [cp_app, cp_poly, cp_neg]
    show _ = (0 : Int); omega
  rw [this]; exact poly_self ⟨List.Pairwise.nil, fun _ h => nomatch h⟩
theorem po_three (a b : List Pr) : polyM (polyM (mulP a [(3, 1)]) ++ b) = polyM (mulP a [(3, 1)] ++ b) := poly_eq fun k => by rw [cp_app, cp_app, cp_poly]
theorem po_four (a b : List Pr) : polyM (mulP (polyM (a ++ b)) (polyM (b ++ a))) = polyM (mulP (a ++ b) (a ++ b)) := poly_eq fun k => mul_cong (cp_poly _) (fun k => by rw [cp_poly, cp_app, cp_app]; omega) k
/-! ### other pairs -/
theorem cp_rev (ps : List Pr) (k : Int) : cp ps.reverse k = cp ps k := by
  induction ps with
  | nil => rfl
  | cons p ps ih => rw [List.reverse_cons, cp_app, ih]; simp only [cp]; omega
theorem cp_halves (k : Int) : ∀ ps : List Pr, cp (ps.map fun p => (p.1, p.2 / 2)) k + cp (ps.map fun p => (p.1, p.2 - p.2 / 2)) k = cp ps k
  | [] => rfl
  | p :: ps => by
    rw [List.map_cons, List.map_cons, cp, cp, cp, ← cp_halves k ps]
    show (if p.1 = k then p.2 / 2 else 0) + _ + ((if p.1 = k then p.2 - p.2 / 2 else 0) + _) = _
    split <;> omega
theorem other_cp (ps : List Pr) (d : Int) (k : Int) : cp (otherR ps d) k = cp ps k := by
  unfold otherR
  split
  · rw [cp_app]; exact cp_halves k ps
  · split
    · rw [cp_app, cp_app]
      have z : ∀ s : Int, cp [(s, 0)] k = 0 := fun s => by simp [cp]
      rw [z, z]; omega
    · exact cp_rev ps k
theorem po_other (ps : List Pr) (d : Int) : polyM (otherR ps d) = polyM ps := poly_eq (other_cp ps d)
/-! ### bounds of what is drawn -/
theorem bd_baseR (row : List Int) : BdP 30 (baseR row) := fun t ht => by
  obtain ⟨k, _, rfl⟩ := List.mem_map.mp ht
  have := coefM_bound (nth row (10 + 4 * k + 1)) (nth row (10 + 4 * k + 2)) (nth row (10 + 4 * k + 3))
  show (coefM _ _ _).natAbs < _
  omega
theorem bd_negP {B : Nat} {a : List Pr} (ha : BdP B a) : BdP B (negP a) := fun t ht => by
  obtain ⟨u, hu, rfl⟩ := List.mem_map.mp ht
  have := ha u hu
  show (-u.2).natAbs < _
  omega
theorem drawnR_bd (row : List Int) : BdP 30 (drawnR row) := by
  have hb := bd_baseR row
  unfold drawnR
  simp only
  split
  · exact bdP_app hb (bd_negP hb)
  · split
    · exact bdP_app (bd_negP fun t ht => hb t (List.mem_of_mem_take ht)) hb
    · split
      · rename_i h
        intro t ht
        obtain ⟨u, hu, rfl⟩ := List.mem_map.mp ht
        have := h.2 u hu
        show (u.2 * facQ row).natAbs < _
        omega
      · exact hb
theorem manyR_bound {row : List Int} (h : rowOk szR row) : 0 ≤ manyR row ∧ manyR row ≤ 40 := by
  have h0 := row_at (k := 0) (s := 12) h (by decide +kernel)
  have h1 := row_at (k := 1) (s := 41) h (by decide +kernel)
  unfold manyR
  have t : ∀ n : Nat, n < 12 → nth [0, 1, 2, 2, 3, 3, 3, 3, 3, 3, 3, 4] n = 0 ∨ nth [0, 1, 2, 2, 3, 3, 3, 3, 3, 3, 3, 4] n = 1 ∨ nth [0, 1, 2, 2, 3, 3, 3, 3, 3, 3, 3, 4] n = 2 ∨ nth [0, 1, 2, 2, 3, 3, 3, 3, 3, 3, 3, 4] n = 3 ∨ nth [0, 1, 2, 2, 3, 3, 3, 3, 3, 3, 3, 4] n = 4 := by decide
  rcases t (nth row 0).toNat (by omega) with e | e | e | e | e <;> rw [e]
  · show 0 ≤ nth row 1 ∧ nth row 1 ≤ 40; omega
  · show (0 : Int) ≤ 40 ∧ (40 : Int) ≤ 40; omega
  · show 0 ≤ nth row 1 % 13 ∧ nth row 1 % 13 ≤ 40; omega
  · show 0 ≤ 2 + nth row 1 % 6 ∧ 2 + nth row 1 % 6 ≤ 40; omega
  · show 0 ≤ nth row 1 % 3 ∧ nth row 1 % 3 ≤ 40; omega
theorem drawnR_len {row : List Int} (h : rowOk szR row) : (drawnR row).length ≤ 80 := by
  have hm := manyR_bound h
  have hb : (baseR row).length ≤ 40 := by
    unfold baseR
    rw [List.length_map, List.length_range]; omega
  have hn : ∀ a : List Pr, (negP a).length = a.length := fun a => List.length_map _
  unfold drawnR
  simp only
  split
  · rw [List.length_append, hn]; omega
  · split
    · rw [List.length_append, hn, List.length_take]; omega
    · split
      · unfold sclP; rw [List.length_map]; omega
      · omega
theorem otherR_bd {ps : List Pr} (h : BdP 30 ps) (d : Int) : BdP 40 (otherR ps d) := by
  unfold otherR
  split
  · refine bdP_app (fun t ht => ?_) fun t ht => ?_
    · obtain ⟨u, hu, rfl⟩ := List.mem_map.mp ht
      have := h u hu
      show (u.2 / 2).natAbs < _
      omega
    · obtain ⟨u, hu, rfl⟩ := List.mem_map.mp ht
      have := h u hu
      show (u.2 - u.2 / 2).natAbs < _
      omega
  · split
    · refine bdP_app (bdP_app (fun t ht => ?_) (bdP_mono h (by decide))) fun t ht => ?_
      · rw [List.mem_singleton.mp ht]; show (0 : Int).natAbs < 2 ^ 40; decide
      · rw [List.mem_singleton.mp ht]; show (0 : Int).natAbs < 2 ^ 40; decide
    · exact bdP_mono (fun t ht => h t (List.mem_reverse.mp ht)) (by decide)
theorem otherR_len {ps : List Pr} (h : ps.length ≤ 80) (d : Int) : (otherR ps d).length ≤ 160 := by
  unfold otherR
  split
  · rw [List.length_append, List.length_map, List.length_map]; omega
  · split
    · simp; omega
    · rw [List.length_reverse]; omega
/-! ### the normal polynomial -/
theorem lastP_mem : ∀ {P : List Pr}, P ≠ [] → lastP P ∈ P
  | [], h => absurd rfl h
  | [p], _ => List.mem_cons_self
  | _ :: p :: r, _ => List.mem_cons_of_mem _ (lastP_mem (P := p :: r) (by simp))
theorem cntP_pos {P : List Pr} (h : PCan P) (hn : P ≠ []) : 0 < cntP P := gcdL_pos (List.mem_map_of_mem (f := (·.2)) (lastP_mem hn)) (h.ne _ (lastP_mem hn))
theorem sgP_ne {P : List Pr} (h : PCan P) (hn : P ≠ []) : sgP P ≠ 0 := sgnD_ne (cntP_pos h hn)
theorem sgP_le {P : List Pr} (h : PCan P) (hn : P ≠ []) : (sgP P).natAbs ≤ (lastP P).2.natAbs := by
  unfold sgP
  rw [sgnD_abs (cntP_pos h hn)]
  exact gcdL_le (List.mem_map_of_mem (f := (·.2)) (lastP_mem hn)) (h.ne _ (lastP_mem hn))
theorem sgP_dvd {P : List Pr} {p : Pr} (h : p ∈ P) : sgP P ∣ p.2 := sgnD_dvd (gcdL_dvd (List.mem_map_of_mem (f := (·.2)) h))
theorem pcan_nrm {P : List Pr} (h : PCan P) : PCan (nrmP P) := by
  by_cases hn : P = []
  · subst hn; exact h
  refine ⟨?_, fun p hp => ?_⟩
  · unfold nrmP
    exact List.pairwise_map.mpr (h.lt.imp fun {a b} hab => by show a.1 - _ < b.1 - _; omega)
  · obtain ⟨q, hq, rfl⟩ := List.mem_map.mp hp
    have e := fdiv_mul (sgP_dvd hq) (sgP_ne h hn)
    intro z
    have z' : q.2.fdiv (sgP P) = 0 := z
    rw [z', Int.zero_mul] at e
    exact h.ne q hq e.symm
theorem nrm_len (P : List Pr) : (nrmP P).length = P.length := List.length_map _
theorem lastP_snd : ∀ P : List Pr, P ≠ [] → ∃ Q, P = Q ++ [lastP P]
  | [], h => absurd rfl h
  | [p], _ => ⟨[], rfl⟩
  | a :: p :: r, _ => by
    obtain ⟨Q, hQ⟩ := lastP_snd (p :: r) (by simp)
    refine ⟨a :: Q, ?_⟩
    show a :: p :: r = a :: (Q ++ [lastP (p :: r)])
    rw [← hQ]
theorem fst_le {P : List Pr} (h : PCan P) {p : Pr} (hp : p ∈ P) : fstS P ≤ p.1 := by
  cases P with
  | nil => cases hp
  | cons q P =>
    show q.1 ≤ p.1
    rcases List.mem_cons.mp hp with e | e
    · rw [e]; exact Int.le_refl _
    · have := (List.pairwise_cons.mp h.lt).1 p e; omega
theorem fst_mem1 {P : List Pr} (hn : P ≠ []) : fstS P ∈ P.map (·.1) := by
  cases P with
  | nil => exact absurd rfl hn
  | cons q P => exact List.mem_cons_self
theorem le_last : ∀ {P : List Pr}, PCan P → ∀ {p : Pr}, p ∈ P → p.1 ≤ (lastP P).1
  | [], _, _, h => nomatch h
  | [q], _, p, h => by rw [List.mem_singleton.mp h]; exact Int.le_refl _
  | q :: a :: r, hc, p, h => by
    have ih : ∀ {p : Pr}, p ∈ a :: r → p.1 ≤ (lastP (a :: r)).1 := fun hp => le_last hc.tail hp
    show p.1 ≤ (lastP (a :: r)).1
    rcases List.mem_cons.mp h with e | e
    · have h1 := (List.pairwise_cons.mp hc.lt).1 a List.mem_cons_self
      have h2 := ih (p := a) List.mem_cons_self
      rw [e]; omega
    · exact ih e
end Go
set_option Elab.async false
set_option linter.all false
set_option maxRecDepth 100000
set_option maxHeartbeats 1000000
namespace Go
open PySem PySem.Spec PyProof.Rows L2 DL
section
variable {K : PySem.W.Frag} {W : WX} {ρ : List Sl} {te ta tb : TE} {d : D}
/-! ### the package: polynomials -/
abbrev gPr (K : PySem.W.Frag) (i j : Nat) : TG := gSeqA K 2 (gCons (gName i) (gCons (gName j) gNil))
def encCl (d0 : D) (a : List (Int × Int)) : List Sl := [.d d0, .ok (encI a), .no, .no]
abbrev tbCl (K : PySem.W.Frag) : TS := sDPut (tVar 1) (tVar 2) (tOp (rAddA K) (tDGet2 (tVar 1) (tVar 2) (tC (.int 0))) (tVar 3))
theorem body_cl (d0 : D) (a : List (Int × Int)) (p : Pr) (hl : a.length < 16777216) : SvD K W (tbCl K) [.d d0, .ok (encI a), .d (.int p.1), .d (.int p.2)] (.nx (encCl d0 (stepP a p))) := by
  have hk : EvD K (tVar 2) [.d d0, .ok (encI a), .d (.int p.1), .d (.int p.2)] (kD (.inl p.1)) := ev_var rfl
  refine sv_nx (sv_putK (k := .inl p.1) (d := .int ((gget a p.1).getD 0 + p.2)) rfl (ev_addI (ev_eq (ev_get2K (dk_own rfl) hk ev_int) (get2_encI _ _)) (ev_var rfl)) hk (gputI_len hl)) [2, 3] ?_
  rw [gput_encI]; rfl
theorem run_cl (d0 : D) : ∀ {ds : List D} {ps : List Pr}, IsPrs ds ps → ∀ a : List (Int × Int), a.length + ps.length ≤ 4000000 → Run (Turn1 K W (gPr K 2 3) (tbCl K)) ds (encCl d0 a) (.nx (encCl d0 (accP a ps)))
  | _, _, .nil, a, _ => .nil
  | _, _, .lst (p := p) (ps := ps) h, a, hl => by
    rw [List.length_cons] at hl
    have hs : (stepP a p).length ≤ a.length + 1 := gput_length _ _ a
    exact .go ⟨_, _, tg_pair (.inl rfl), body_cl d0 a p (by omega)⟩ (run_cl d0 h (stepP a p) (by omega))
  | _, _, .tup (p := p) (ps := ps) h, a, hl => by
    rw [List.length_cons] at hl
    have hs : (stepP a p).length ≤ a.length + 1 := gput_length _ _ a
    exact .go ⟨_, _, tg_pair (.inr rfl), body_cl d0 a p (by omega)⟩ (run_cl d0 h (stepP a p) (by omega))
theorem fm_filter {α β : Type} (p : α → Prop) [DecidablePred p] (f : α → β) : ∀ l : List α, (l.filterMap fun a => if p a then some (f a) else none) = (l.filter fun a => decide (p a)).map f
  | [] => rfl
  | a :: l => by
    by_cases h : p a
    · rw [List.filterMap_cons, if_pos h, List.filter_cons, if_pos (by simpa using h), List.map_cons, fm_filter p f l]
    · rw [List.filterMap_cons, if_neg h, List.filter_cons, if_neg (by simpa using h), fm_filter p f l]
theorem encI_py (a : List (Int × Int)) : ((encI a).map fun kv => keyPy kv.1) = (a.map (·.1)).map PyData.int := by unfold encI; rw [List.map_map, List.map_map]; rfl
theorem pr_cleaned (W : WX) (ds : List D) (r : Res) (h : frcleaned ds r) : FnEnd K W (tcleaned K W) (entry Ncleaned ds) r := by
  obtain ⟨d, ps, ⟨xs, hx, hd⟩, hl, rfl, rfl⟩ := h
  left
  show SvD K W (tcleaned K W) [.d d, .no, .no, .no] _
  unfold tcleaned
  have ha := accP_len ps []
  have e0 : (([] : List (Int × Int))).length = 0 := rfl
  rw [e0] at ha
  refine sv_seq sv_asgDK (sv_seq (sv_for (wi_terms (ev_var rfl) hd) (run_cl d hx [] (by rw [e0]; omega))) ?_)
  show SvD K W _ (encCl d (accP [] ps)) _
  refine sv_retE (ev_tupL (ds := (polyM ps).map pT) (sl_d (ev_of_L ?_))) rfl
  have hs := evl_sortK (K := K) (ρ := encCl d (accP [] ps)) (te := tVar 1) (kvs := encI (accP [] ps)) (dk_own rfl) (by rw [encI_py]; exact sortOk_ints (by rw [List.length_map]; omega))
  rw [encI_keys, sortD_ints] at hs
  have e1 : (polyM ps).map pT = ((((accP [] ps).map (·.1)).mergeSort leI).filter fun k => decide ((gget (accP [] ps) k).getD 0 ≠ 0)).map fun k => pT (k, (gget (accP [] ps) k).getD 0) := by
    unfold polyM
    rw [fm_filter (fun k => (gget (accP [] ps) k).getD 0 ≠ 0), List.map_map]; rfl
  rw [e1]
  refine evl_filter (e := D.int) _ _ (wi_seqL (wi_list (ev_of_L hs))) (fun k hk => ?_) (by rw [List.length_mergeSort, List.length_map]; omega)
  obtain ⟨v, hv⟩ := gget_some ((List.mergeSort_perm _ _).mem_iff.mp hk)
  have hg : gget (encI (accP [] ps)) (.inl k) = some (.int v) := by rw [gget_encI, hv]; rfl
  have hv0 : (gget (accP [] ps) k).getD 0 = v := by rw [hv]; rfl
  have hd : EvD K (tDGet (tVar 1) (tVar 2)) [.d d, .ok (encI (accP [] ps)), .d (.int k), .no] (.int v) := ev_dgetK (k := .inl k) (dk_own rfl) (ev_var rfl) hg
  rw [hv0]
  refine ⟨[2], _, tg_name, by simp, tv_eq (tv_neI hd ev_int) ?_, fun _ => ev_tup (av_cons (ev_var rfl) (av_cons hd av_nil)) le2⟩
  rw [beqI]; simp
def onQ (f : Pr → Option D) : D → Option D
  | .lst [.int a, .int b] => f (a, b)
  | .tup [.int a, .int b] => f (a, b)
  | _ => none
theorem onQ_all (f : Pr → Option D) : ∀ {ds : List D} {ps : List Pr}, IsPrs ds ps → ds.filterMap (onQ f) = ps.filterMap f
  | _, _, .nil => rfl
  | _, _, .lst (p := p) h => by rw [List.filterMap_cons, List.filterMap_cons, onQ_all f h]; rfl
  | _, _, .tup (p := p) h => by rw [List.filterMap_cons, List.filterMap_cons, onQ_all f h]; rfl
theorem onQ_at (f : Pr → Option D) {e : D} {t : Pr} (h : e = pL t ∨ e = pT t) : onQ f e = f t := by rcases h with rfl | rfl <;> rfl
theorem pr_product_of (W : WX) (ds : List D) (r : Res) (h : frproduct_of ds r) : FnEnd K W (tproduct_of K W) (entry Nproduct_of ds) r := by
  obtain ⟨dp, d, ps, qs, ⟨ys, hy, hdp⟩, ⟨xs, hx, hd⟩, lp, la, bp, bt, rfl, rfl⟩ := h
  left
  show SvD K W (tproduct_of K W) [.d dp, .d d, .no, .no, .no, .no] _
  have l1 := isPrs_len hx
  have l2 := isPrs_len hy
  have e1 : ps.flatMap (fun p => qs.map fun q => pT (p.1 + q.1, p.2 * q.2)) = (mulP ps qs).map pT := by
    unfold mulP
    rw [List.map_flatMap]
    congr 1
    funext p
    rw [List.map_map]; rfl
  have hlen : ((mulP ps qs).map pT).length ≤ 1000000 := by
    rw [List.length_map, len_mulP]
    exact Nat.le_trans (Nat.mul_le_mul lp la) (by decide)
  have hc := ev_lc2 (K := K) (ρ := [.d dp, .d d, .no, .no, .no, .no]) (wi := iSeq K (tVar 0)) (wi1 := iSeq K (tVar 1)) (g := gPr K 2 3) (g1 := gPr K 4 5) (tt := tYes) (tt1 := tYes)
    (te := tTup (tCons (tOp (rAddA K) (tVar 4) (tVar 2)) (tCons (tOp rMulA (tVar 3) (tVar 5)) tNil))) (vs := [2, 3, 4, 5]) (vs1 := [4, 5]) (f := onP fun p => qs.map fun q => pT (p.1 + q.1, p.2 * q.2))
    (wi_terms (ev_var rfl) hdp) (fun e he => by
      obtain ⟨p, hp, hep⟩ := isPrs_mem hy e he
      refine ⟨_, _, true, tg_pair hep, by simp, tv_yes, (fun z => nomatch z), fun _ => ⟨xs, onQ fun q => some (pT (p.1 + q.1, p.2 * q.2)), wi_terms (ev_var rfl) hd, ?_, by simp, fun u hu => ?_⟩⟩
      · rw [onP_at _ hep, onQ_all _ hx, filterMap_some]
      · obtain ⟨t, ht, hut⟩ := isPrs_mem hx u hu
        refine ⟨_, _, true, tg_pair hut, by simp, tv_yes, fun _ => ⟨_, onQ_at _ hut, ev_tup (av_cons (ev_eq (ev_addI (ev_var rfl) (ev_var rfl)) (by rw [Int.add_comm])) (av_cons (ev_mulI (ev_var rfl) (ev_var rfl) (mul_ok 20000 20000 (bp p hp) (bt t ht) (by decide))) av_nil)) le2⟩, fun z => nomatch z⟩)
    (by rw [onP_all _ hy, e1]; omega)
  rw [onP_all _ hy, e1] at hc
  exact sv_ret (ev_call (av_cons (ev_of_L hc) av_nil) ⟨_, mulP ps qs, ⟨_, isPrs_T _, .inl rfl⟩, by rw [List.length_map] at hlen; omega, rfl, rfl⟩)
theorem poly_at_last {P : List Pr} (hn : P ≠ []) (h : EvD K te ρ (ePoly P)) : EvD K (tOp (rIxA K) te (tUn (rU fun i => .int (-i)) (tC (.int 1)))) ρ (pT (lastP P)) := by
  obtain ⟨Q, hQ⟩ := lastP_snd P hn
  refine ev_ixT (i := -1) (st_d (ds := P.map pT) h) (ev_neg ev_int) ?_
  have : P.map pT = Q.map pT ++ [pT (lastP P)] := by
    rw [← List.map_singleton (f := pT), ← List.map_append, ← hQ]
  rw [this]; exact atI_last
theorem poly_at_fst {P : List Pr} (hn : P ≠ []) (h : EvD K te ρ (ePoly P)) : EvD K (tOp (rIxA K) (tOp (rIxA K) te (tC (.int 0))) (tC (.int 0))) ρ (.int (fstS P)) := by
  cases P with
  | nil => exact absurd rfl hn
  | cons p P => exact ev_ixT (i := 0) (st_d (ds := [.int p.1, .int p.2]) (ev_ixT (i := ((0 : Nat) : Int)) (st_d (ds := (p :: P).map pT) h) ev_int (atI_nat (by rfl)))) ev_int rfl
theorem ev_pr0 {p : Pr} (h : EvD K te ρ (pT p)) : EvD K (tOp (rIxA K) te (tC (.int 0))) ρ (.int p.1) := ev_ixT (i := 0) (st_d (ds := [.int p.1, .int p.2]) h) ev_int rfl
theorem ev_pr1 {p : Pr} (h : EvD K te ρ (pT p)) : EvD K (tOp (rIxA K) te (tC (.int 1))) ρ (.int p.2) := ev_ixT (i := 1) (st_d (ds := [.int p.1, .int p.2]) h) ev_int rfl
theorem pr_spread (W : WX) (ds : List D) (r : Res) (h : frspread ds r) : FnEnd K W (tspread K W) (entry Nspread ds) r := by
  obtain ⟨P, hn, rfl, rfl⟩ := h
  left
  show SvD K W (tspread K W) [.d (ePoly P)] _
  exact sv_ret (ev_subI (ev_pr0 (poly_at_last hn (ev_var rfl))) (poly_at_fst hn (ev_var rfl)))
theorem fold_one : ∀ l : List Int, l.foldl gcdI 1 = 1
  | [] => rfl
  | a :: l => by
    show l.foldl gcdI (gcdI 1 a) = 1
    have : gcdI 1 a = 1 := by unfold gcdI; rw [show (1 : Int).natAbs = 1 from rfl, Nat.gcd_one_left]; rfl
    rw [this]; exact fold_one l
def encCt (P : List Pr) (g : Int) : List Sl := [.d (ePoly P), .d (.int g), .no, .no]
abbrev tbCt (K : PySem.W.Frag) : TS := (tSeq (tAsg (tCB rGcd (tCons (tVar 1) (tCons (tVar 3) tNil))) (gName 1)) (tIfS (tTest (tOp (rEqD K) (tVar 1) (tC (.int 1)))) (tRet (tC (.int 1))) tNext))
theorem run_ct (P : List Pr) : ∀ (M : List Pr) (g : Int), ∃ o, Run (Turn1 K W (gPr K 2 3) (tbCt K)) (M.map pT) (encCt P g) o ∧ ((o = .rt (.int 1) ∧ (M.map (·.2)).foldl gcdI g = 1) ∨ o = .nx (encCt P ((M.map (·.2)).foldl gcdI g)))
  | [], g => ⟨_, .nil, .inr rfl⟩
  | p :: M, g => by
    have s1 : SvD K W (tAsg (tCB rGcd (tCons (tVar 1) (tCons (tVar 3) tNil))) (gName 1)) [.d (ePoly P), .d (.int g), .d (.int p.1), .d (.int p.2)] (.nx [.d (ePoly P), .d (.int (gcdI g p.2)), .d (.int p.1), .d (.int p.2)]) := sv_asg (d := .int (gcdI g p.2)) (ev_gcd (ev_var rfl) (ev_var rfl))
    by_cases e : gcdI g p.2 = 1
    · refine ⟨.rt (.int 1), .rt ⟨_, _, tg_pair (.inr rfl), sv_seq s1 (sv_ifT (tv_eq (tv_eqI (ev_var rfl) ev_int) (by rw [e]; rfl)) (sv_ret ev_int))⟩, .inl ⟨rfl, ?_⟩⟩
      show (M.map (·.2)).foldl gcdI (gcdI g p.2) = 1
      rw [e]; exact fold_one _
    · obtain ⟨o, ho, h⟩ := run_ct P M (gcdI g p.2)
      refine ⟨o, .go ⟨_, _, tg_pair (.inr rfl), sv_nx (sv_seq s1 (sv_ifF (tv_eq (tv_eqI (ev_var rfl) ev_int) (beq_eq_false_iff_ne.mpr e)) sv_next)) [2, 3] rfl⟩ ho, h⟩
theorem pr_content (W : WX) (ds : List D) (r : Res) (h : frcontent ds r) : FnEnd K W (tcontent K W) (entry Ncontent ds) r := by
  obtain ⟨P, hl, rfl, rfl⟩ := h
  left
  show SvD K W (tcontent K W) [.d (ePoly P), .no, .no, .no] _
  unfold tcontent
  refine sv_seq (sv_asg ev_int) ?_
  obtain ⟨o, ho, h⟩ := run_ct (K := K) (W := W) P P 0
  have hc : cntP P = (P.map (·.2)).foldl gcdI 0 := rfl
  rcases h with ⟨rfl, e⟩ | rfl
  · rw [hc, e]
    exact sv_stop (sv_for (wi_seqT (wi_tup (ev_var rfl))) ho)
  · exact sv_seq (sv_for (wi_seqT (wi_tup (ev_var rfl))) ho) (sv_ret (ev_var rfl))
theorem emp_map {α β : Type} (f : α → β) (l : List α) : (l.map f).isEmpty = l.isEmpty := by cases l <;> rfl
theorem emp_false {α : Type} {l : List α} (h : l ≠ []) : l.isEmpty = false := by
  cases l with
  | nil => exact absurd rfl h
  | cons _ _ => rfl
theorem tv_noP {P : List Pr} (h : EvD K te ρ (ePoly P)) : TvD K (tNot (tTru K te)) ρ P.isEmpty := tv_eq (tv_not (tv_truT (ds := P.map pT) h)) (by rw [emp_map, Bool.not_not])
theorem sgP_div {P : List Pr} (hc : PCan P) (hn : P ≠ []) (hb : BdP 8000 P) (i : Int) : CDivX i (sgP P) := divX_of (sgP_ne hc hn) 8000 (Nat.lt_of_le_of_lt (sgP_le hc hn) (hb _ (lastP_mem hn))) (by decide) (by decide)
theorem sgP_if (P : List Pr) : sgP P = if (lastP P).2 < 0 then -(cntP P) else cntP P := rfl
theorem nrm_map (P : List Pr) : (P.map fun q => pT (q.1 - fstS P, q.2.fdiv (sgP P))) = (nrmP P).map pT := by unfold nrmP; rw [List.map_map]; rfl
theorem pr_normal (W : WX) (ds : List D) (r : Res) (h : frnormal ds r) : FnEnd K W (tnormal K W) (entry Nnormal ds) r := by
  obtain ⟨P, hc, hl, hb, rfl, rfl⟩ := h
  left
  show SvD K W (tnormal K W) [.d (ePoly P), .no, .no, .no] _
  unfold tnormal
  by_cases hn : P = []
  · exact sv_stop (sv_ifT (tv_eq (tv_noP (P := P) (ev_var rfl)) (by rw [hn]; rfl)) (sv_retE (ev_tup av_nil (by decide)) (by rw [hn]; rfl)))
  refine sv_seq (sv_ifF (tv_eq (tv_noP (P := P) (ev_var rfl)) (emp_false hn)) sv_next) ?_
  refine sv_seq (sv_asg (d := .int (cntP P)) (ev_call (av_cons (ev_var rfl) av_nil) ⟨P, hl, rfl, rfl⟩)) ?_
  refine sv_seq (ρ' := [.d (ePoly P), .d (.int (sgP P)), .no, .no]) ?_ ?_
  · rw [sgP_if]
    by_cases z : (lastP P).2 < 0
    · rw [if_pos z]
      exact sv_ifT (tv_eq (tv_cmpI (g := fun i j => decide (i < j)) (ev_pr1 (poly_at_last hn (ev_var rfl))) ev_int) (by simpa using z)) (sv_asg (ev_neg (ev_var rfl)))
    · rw [if_neg z]
      exact sv_ifF (tv_eq (tv_cmpI (g := fun i j => decide (i < j)) (ev_pr1 (poly_at_last hn (ev_var rfl))) ev_int) (by simpa using z)) sv_next
  · refine sv_retE (ev_tupL (ds := (nrmP P).map pT) (sl_d (ev_of_L ?_))) rfl
    rw [← nrm_map]
    exact evl_map (e := pT) (fun q => pT (q.1 - fstS P, q.2.fdiv (sgP P))) (wi_seqT (wi_tup (ev_var rfl))) (fun q _ => ⟨[2, 3], _, tg_pair (.inr rfl), by simp, ev_tup (av_cons (ev_subI (ev_var rfl) (poly_at_fst hn (ev_var rfl))) (av_cons (ev_divX (ev_var rfl) (ev_var rfl) (sgP_div hc hn hb _)) av_nil)) le2⟩) (by omega)
theorem pr_polynomial (W : WX) (ds : List D) (r : Res) (h : frpolynomial ds r) : FnEnd K W (tpolynomial K W) (entry Npolynomial ds) r := by
  obtain ⟨d, ps, hd, hl, rfl, rfl⟩ := h
  left
  exact sv_ret (ev_call (av_cons (ev_var rfl) av_nil) ⟨d, ps, hd, hl, rfl, rfl⟩)
theorem pr_normal_polynomial (W : WX) (ds : List D) (r : Res) (h : frnormal_polynomial ds r) : FnEnd K W (tnormal_polynomial K W) (entry Nnormal_polynomial ds) r := by
  obtain ⟨d, ps, hd, hl, hb, rfl, rfl⟩ := h
  left
  have l1 := len_poly ps
  exact sv_ret (ev_call (av_cons (ev_call (d := ePoly (polyM ps)) (av_cons (ev_var rfl) av_nil) ⟨d, ps, hd, hl, rfl, rfl⟩) av_nil) ⟨polyM ps, pcan_poly ps, by omega, hb, rfl, rfl⟩)
theorem pr_span (W : WX) (ds : List D) (r : Res) (h : frspan K ds r) : FnEnd K W (tspan K W) (entry Nspan ds) r := by
  obtain ⟨d, ps, hd, hl, rfl, h⟩ := h
  left
  have l1 := len_poly ps
  have h1 : SvD K W (tAsg (tCallS (SpF K Pcleaned.length frcleaned) (WE W) (tCons (tVar 0) tNil)) (gName 1)) [.d d, .no] (.nx [.d d, .d (ePoly (polyM ps))]) := sv_asg (ev_call (av_cons (ev_var rfl) av_nil) ⟨d, ps, hd, hl, rfl, rfl⟩)
  rcases h with ⟨hn, rfl⟩ | ⟨hn, rfl⟩
  · show SvD K W (tspan K W) [.d d, .no] _
    unfold tspan
    exact sv_seq h1 (sv_seq (sv_ifF (tv_eq (tv_noP (P := polyM ps) (ev_var rfl)) (emp_false hn)) sv_next) (sv_ret (ev_call (av_cons (ev_var rfl) av_nil) ⟨polyM ps, hn, rfl, rfl⟩)))
  · refine ⟨[.d d, .d (ePoly (polyM ps))], ?_⟩
    show SvD K W (tspan K W) [.d d, .no] _
    unfold tspan
    exact sv_seq h1 (sv_stop (sv_ifT (tv_eq (tv_noP (P := polyM ps) (ev_var rfl)) (by rw [hn]; rfl)) sv_raiseD))
theorem isPrs_append : ∀ {ds es : List D} {a b : List Pr}, IsPrs ds a → IsPrs es b → IsPrs (ds ++ es) (a ++ b)
  | _, _, _, _, .nil, h => h
  | _, _, _, _, .lst h, h' => .lst (isPrs_append h h')
  | _, _, _, _, .tup h, h' => .tup (isPrs_append h h')
theorem pr_poly_plus (W : WX) (ds : List D) (r : Res) (h : frpoly_plus ds r) : FnEnd K W (tpoly_plus K W) (entry Npoly_plus ds) r := by
  obtain ⟨d, e, a, b, ⟨xs, hx, hd⟩, ⟨ys, hy, he⟩, la, lb, rfl, rfl⟩ := h
  left
  show SvD K W (tpoly_plus K W) [.d d, .d e] _
  have l1 := isPrs_len hx
  have l2 := isPrs_len hy
  have hl : EvD K (tLst (StX.tStar K (tVar 0) (StX.tStar K (tVar 1) tNil))) [.d d, .d e] (.lst (xs ++ (ys ++ []))) := ev_of_L (evl_lst (av_starA (ev_var rfl) hd (av_starA (ev_var rfl) he av_nil)) (by simp; omega))
  rw [List.append_nil] at hl
  exact sv_ret (ev_call (av_cons hl av_nil) ⟨_, a ++ b, ⟨_, isPrs_append hx hy, .inl rfl⟩, by rw [List.length_append]; omega, rfl, rfl⟩)
theorem pr_poly_times (W : WX) (ds : List D) (r : Res) (h : frpoly_times ds r) : FnEnd K W (tpoly_times K W) (entry Npoly_times ds) r := by
  obtain ⟨d, e, ps, qs, hd, he, lp, lq, bp, bq, rfl, rfl⟩ := h
  left
  exact sv_ret (ev_call (av_cons (ev_var rfl) (av_cons (ev_var rfl) av_nil)) ⟨d, e, ps, qs, hd, he, lp, lq, bp, bq, rfl, rfl⟩)
end
end Go
set_option Elab.async false
set_option linter.all false
set_option maxRecDepth 100000
set_option maxHeartbeats 1000000
namespace Go
open PySem PySem.Spec PyProof.Rows L2 DL
section
variable {K : PySem.W.Frag} {W : WX} {ρ : List Sl} {te ta tb : TE} {d : D}
theorem ev_bits {i : Int} (h : EvD K te ρ (.int i)) : EvD K (tBits te) ρ (.int ((Builtin.Int.intBits i : Nat) : Int)) := fun F0 H0 F H σ R Q q => h F0 H0 F H σ R _ fun v F1 H1 g1 r1 => by
  cases r1
  exact ⟨i, rfl, q _ F1 H1 g1 (.int _)⟩
theorem bits_lt (n : Nat) : n < 2 ^ (Builtin.Int.intBits (n : Int)) := by
  unfold Builtin.Int.intBits
  by_cases z : ((n : Int) == 0) = true
  · rw [if_pos z]
    have : n = 0 := by have := beq_iff_eq.mp z; omega
    subst this; decide
  · rw [if_neg z]
    show n < 2 ^ (Nat.log2 ((n : Int).natAbs) + 1)
    rw [Int.natAbs_natCast]
    exact Nat.lt_log2_self
theorem bits_le {n B : Nat} (h : n < 2 ^ B) : Builtin.Int.intBits (n : Int) ≤ B := by
  unfold Builtin.Int.intBits
  split
  · exact Nat.zero_le _
  · rename_i z
    have n0 : n ≠ 0 := fun e => by subst e; exact z rfl
    show Nat.log2 ((n : Int).natAbs) + 1 ≤ B
    rw [Int.natAbs_natCast]
    exact (Nat.log2_lt n0).mpr h
/-! ### Euclid -/
def encGc (a b : Int) (x y : Nat) : List Sl := [.d (.int a), .d (.int b), .d (.int (x : Int)), .d (.int (y : Int)), .no, .no]
abbrev tbGc (K : PySem.W.Frag) : TS := (tSeq (tIfS (tTest (tOp (rEqD K) (tVar 3) (tC (.int 0)))) (tRet (tVar 2)) tNext)
    (tSeq (tAsg (tOp (rI (fun _ j => 0 < j) fun i j => .int (i % j)) (tCB rIntC (tCons (tVar 2) tNil)) (tVar 3)) (gName 5))
    (tSeq (tAsg (tVar 3) (gName 2))
    (tAsg (tVar 5) (gName 3)))))
theorem turn_g0 (a b : Int) (x : Nat) (e : D) : Turn1 K W (gName 4) (tbGc K) e (encGc a b x 0) (.rt (.int (x : Int))) :=
  t1_name (sv_stop (sv_ifT (tv_eq (tv_eqI (ev_var rfl) ev_int) rfl) (sv_ret (ev_var rfl))))
theorem turn_g1 (a b : Int) (x y : Nat) (hy : 0 < y) (e : D) : Turn1 K W (gName 4) (tbGc K) e (encGc a b x y) (.nx (encGc a b y (x % y))) := by
  have z : ((y : Int) == 0) = false := beq_eq_false_iff_ne.mpr (by omega)
  refine t1_name (sv_nx (sv_seq (sv_ifF (tv_eq (tv_eqI (ev_var rfl) ev_int) z) sv_next) (sv_seq (sv_asg (d := .int ((x % y : Nat) : Int)) (ev_eq (ev_modI (ev_intC (ev_var rfl)) (ev_var rfl) (by omega)) (by congr 1))) (sv_seq (sv_asg (ev_var rfl)) (sv_asg (ev_var rfl))))) [4, 5] ?_)
  rfl
theorem run_gcd (a b : Int) : ∀ (j : Nat) (x y : Nat) (ds : List D), y < 2 ^ j → 2 * j + 1 ≤ ds.length → Run (Turn1 K W (gName 4) (tbGc K)) ds (encGc a b x y) (.rt (.int ((Nat.gcd x y : Nat) : Int)))
  | 0, x, y, ds, hy, hl => by
    have : y = 0 := by simpa using hy
    subst this
    cases ds with
    | nil => simp at hl
    | cons e ds => rw [Nat.gcd_zero_right]; exact .rt (turn_g0 a b x e)
  | j + 1, x, y, ds, hy, hl => by
    cases ds with
    | nil => simp at hl
    | cons e ds =>
      rw [List.length_cons] at hl
      by_cases y0 : y = 0
      · subst y0
        rw [Nat.gcd_zero_right]; exact .rt (turn_g0 a b x e)
      · refine .go (turn_g1 a b x y (by omega) e) ?_
        cases ds with
        | nil => simp at hl
        | cons e2 ds =>
          rw [List.length_cons] at hl
          have hm := Nat.mod_lt x (show 0 < y by omega)
          have eg : Nat.gcd x y = Nat.gcd y (x % y) := by rw [Nat.gcd_comm x y, Nat.gcd_rec, Nat.gcd_comm]
          rw [eg]
          by_cases c0 : x % y = 0
          · rw [c0, Nat.gcd_zero_right]; exact .rt (turn_g0 a b y e2)
          · refine .go (turn_g1 a b y (x % y) (by omega) e2) ?_
            have eg2 : Nat.gcd y (x % y) = Nat.gcd (x % y) (y % (x % y)) := by rw [Nat.gcd_comm y, Nat.gcd_rec, Nat.gcd_comm]
            rw [eg2]
            exact run_gcd a b j _ _ ds (euclid_half (by omega) hm hy) (by omega)
theorem abs_is (a : Int) : (if a < 0 then -a else a) = (a.natAbs : Int) := by split <;> omega
theorem pr_law_gcd (W : WX) (ds : List D) (r : Res) (h : fr_law_gcd ds r) : FnEnd K W (t_law_gcd K W) (entry N_law_gcd ds) r := by
  obtain ⟨a, b, hb, rfl, rfl⟩ := h
  left
  show SvD K W (t_law_gcd K W) [.d (.int a), .d (.int b), .no, .no, .no, .no] _
  unfold t_law_gcd
  have hl := bits_le hb
  have hy := bits_lt b.natAbs
  refine sv_seq (sv_asg (d := .int (a.natAbs : Int)) (ev_eq (ev_absC (ev_var rfl)) (by rw [abs_is]))) (sv_seq (sv_asg (d := .int (b.natAbs : Int)) (ev_eq (ev_absC (ev_var rfl)) (by rw [abs_is]))) ?_)
  refine sv_stop (sv_for (wi_rng1 (j := 2 * ((Builtin.Int.intBits (b.natAbs : Int) : Nat) : Int) + 2) (av_cons (ev_addI (ev_mulI ev_int (ev_bits (ev_var rfl)) (mul_s (by decide) (by omega))) ev_int) av_nil) (by omega) (by omega)) (run_gcd a b _ a.natAbs b.natAbs _ hy ?_))
  rw [rngD_length]; omega
end
end Go
set_option Elab.async false
set_option linter.all false
set_option maxRecDepth 100000
set_option maxHeartbeats 1000000
namespace Go
open PySem PySem.Spec PyProof.Rows L2 DL
section
variable {K : PySem.W.Frag} {W : WX} {ρ : List Sl} {te ta tb : TE} {d : D}
theorem ev_cell {ns : List Int} {k : Nat} (h : EvD K ta ρ (.scr ns)) (hb : EvD K tb ρ (.int (k : Int))) (hk : k ≤ 100000) : EvD K (tCallS (SpF K P_law_cell.length fr_law_cell) (WE W) (tCons ta (tCons tb tNil))) ρ (.int (cellM ns k)) := ev_call (av_cons h (av_cons hb av_nil)) ⟨ns, k, hk, rfl, rfl⟩
theorem ev_digits {c : Int} {sz : List Int} (h : EvD K ta ρ (.int c)) (hb : EvD K tb ρ (.lst (sz.map D.int))) (hs : ∀ s ∈ sz, 0 < s ∧ s < 1073741824) (hl : sz.length ≤ 5000) : EvD K (tCallS (SpF K P_law_digits.length fr_law_digits) (WE W) (tCons ta (tCons tb tNil))) ρ (.lst ((digM c sz).map D.int)) := ev_call (av_cons h (av_cons hb av_nil)) ⟨c, sz, hs, hl, rfl, rfl⟩
end
end Go
set_option Elab.async false
set_option linter.all false
set_option maxRecDepth 100000
set_option maxHeartbeats 1000000
namespace Go
open PySem PySem.Spec PyProof.Rows L2 DL
section
variable {K : PySem.W.Frag} {W : WX} {ρ : List Sl} {te ta tb : TE} {d : D}
/-! ### the law's own: sums, products, pairs -/
theorem keys_eP (P : List Pr) : KeysD (ePDict P) (P.map fun p => D.int p.1) := .inl ⟨_, _, rfl, by rw [List.map_map]; rfl⟩
theorem get_eP {P : List Pr} (h : PCan P) {p : Pr} (hp : p ∈ P) : gget (encI P) (.inl p.1) = some (.int p.2) := by rw [gget_encI, gget_of_memI (asc_nodup h.lt) hp]; rfl
theorem items_eP (a : List Pr) : ((encI a).map fun kv => D.tup [kD kv.1, kv.2]) = a.map pT := by unfold encI; rw [List.map_map]; rfl
theorem ev_getP {P : List Pr} (h : EvD K ta ρ (ePDict P)) (hc : PCan P) {p : Pr} (hp : p ∈ P) (hk : EvD K tb ρ (.int p.1)) : EvD K (tDGet ta tb) ρ (.int p.2) := ev_dgetK (k := .inl p.1) (evdk_eP h) hk (get_eP hc hp)
theorem pr_law_add (W : WX) (ds : List D) (r : Res) (h : fr_law_add ds r) : FnEnd K W (t_law_add K W) (entry N_law_add ds) r := by
  obtain ⟨P, Q, hP, hQ, lP, lQ, bQ, rfl, rfl⟩ := h
  left
  show SvD K W (t_law_add K W) [.d (ePDict P), .d (ePDict Q), .d (.int 1), .no] _
  have h1 : EvL K (tItemsR (tVar 0)) [.d (ePDict P), .d (ePDict Q), .d (.int 1), .no] (P.map pT) := by
    rw [← items_eP]; exact evl_items (evdk_eP (ev_var rfl))
  have h2 : EvL K (tLockEA (tLc (iSeq K (tVar 1)) (gName 3) tYes (tTup (tCons (tVar 3) (tCons (tOp rMulA (tVar 2) (tDGet (tVar 1) (tVar 3))) tNil))) [3])) [.d (ePDict P), .d (ePDict Q), .d (.int 1), .no] (Q.map fun q => pT q) :=
    evl_mapKeys (e := fun p : Pr => D.int p.1) (fun q => pT q) rfl (keys_eP Q) (fun q hq => ⟨[3], _, tg_name, by simp, ev_tup (av_cons (ev_var rfl) (av_cons (ev_eq (ev_mulI (ev_var rfl) (ev_getP (ev_var rfl) hQ hq (ev_var rfl)) (mul_ok (i := 1) 1 20000 (by decide) (bQ q hq) (by decide))) (by rw [Int.one_mul])) av_nil)) le2⟩) (by omega)
  have h3 := ev_of_L (evl_addL (ev_of_L h1) (ev_of_L h2) (by rw [List.length_map, List.length_map]; omega))
  exact sv_ret (ev_call (av_cons h3 av_nil) ⟨_, P ++ Q, ⟨_, isPrs_append (isPrs_T P) (isPrs_T Q), .inl rfl⟩, by rw [List.length_append]; omega, rfl, rfl⟩)
def encPM (P Q : List Pr) (a : List (Int × Int)) (x : Sl) : List Sl := [.d (ePDict P), .d (ePDict Q), .ok (encI a), x, .no]
abbrev tbPM (K : PySem.W.Frag) : TS := sDPut (tVar 2) (tOp (rAddA K) (tVar 3) (tVar 4)) (tOp (rAddA K) (tDGet2 (tVar 2) (tOp (rAddA K) (tVar 3) (tVar 4)) (tC (.int 0))) (tOp rMulA (tDGet (tVar 0) (tVar 3)) (tDGet (tVar 1) (tVar 4))))
def mulQ (p q : Pr) : Pr := (p.1 + q.1, p.2 * q.2)
theorem run_pm1 {P Q : List Pr} (hP : PCan P) (hQ : PCan Q) (bP : BdP 20000 P) (bQ : BdP 20000 Q) {p : Pr} (hp : p ∈ P) : ∀ (M : List Pr) (a : List (Int × Int)), (∀ q ∈ M, q ∈ Q) → a.length + M.length ≤ 4000000 →
    Run (Turn1 K W (gName 4) (tbPM K)) (M.map fun p => D.int p.1) (encPM P Q a (.d (.int p.1))) (.nx (encPM P Q (accP a (M.map (mulQ p))) (.d (.int p.1))))
  | [], a, _, _ => .nil
  | q :: M, a, hm, hl => by
    rw [List.length_cons] at hl
    have hs : (stepP a (mulQ p q)).length ≤ a.length + 1 := gput_length _ _ a
    have ih := run_pm1 hP hQ bP bQ hp M (stepP a (mulQ p q)) (fun u hu => hm u (List.mem_cons_of_mem _ hu)) (by omega)
    have hq := hm q List.mem_cons_self
    have hk : EvD K (tOp (rAddA K) (tVar 3) (tVar 4)) [.d (ePDict P), .d (ePDict Q), .ok (encI a), .d (.int p.1), .d (.int q.1)] (kD (.inl (p.1 + q.1))) := ev_addI (ev_var rfl) (ev_var rfl)
    refine .go (t1_name (sv_nx (sv_putK (k := .inl (p.1 + q.1)) (d := .int ((gget a (p.1 + q.1)).getD 0 + p.2 * q.2)) rfl (ev_addI (ev_eq (ev_get2K (dk_own rfl) hk ev_int) (get2_encI _ _)) (ev_mulI (ev_getP (ev_var rfl) hP hp (ev_var rfl)) (ev_getP (ev_var rfl) hQ hq (ev_var rfl)) (mul_ok 20000 20000 (bP p hp) (bQ q hq) (by decide)))) hk (gputI_len (by omega))) [4] ?_)) ih
    rw [gput_encI]; rfl
theorem accP_append (a : List (Int × Int)) (x y : List Pr) : accP a (x ++ y) = accP (accP a x) y := List.foldl_append
theorem run_pm {P Q : List Pr} (hP : PCan P) (hQ : PCan Q) (bP : BdP 20000 P) (bQ : BdP 20000 Q) : ∀ (M : List Pr) (a : List (Int × Int)), (∀ p ∈ M, p ∈ P) → a.length + M.length * Q.length ≤ 4000000 →
    Run (Turn1 K W (gName 3) (tLockA (tFor (iSeq K (tVar 1)) (gName 4) (tbPM K)))) (M.map fun p => D.int p.1) (encPM P Q a .no) (.nx (encPM P Q (accP a (mulP M Q)) .no))
  | [], a, _, _ => .nil
  | p :: M, a, hq, hl => by
    rw [List.length_cons, Nat.add_mul, Nat.one_mul] at hl
    have h1 := accP_len (Q.map (mulQ p)) a
    rw [List.length_map] at h1
    have ih := run_pm hP hQ bP bQ M (accP a (Q.map (mulQ p))) (fun u hu => hq u (List.mem_cons_of_mem _ hu)) (by omega)
    have e1 : accP a (mulP (p :: M) Q) = accP (accP a (Q.map (mulQ p))) (mulP M Q) := by rw [← accP_append]; rfl
    rw [e1]
    refine .go (t1_name (sv_nx (sv_forKeys (s := 1) (u0 := ePDict Q) rfl (keys_eP Q) (run_pm1 hP hQ bP bQ (hq p List.mem_cons_self) Q a (fun _ h => h) (by omega)) (fun _ _ _ z => nomatch z)) [3] ?_)) ih
    rfl
theorem po_acc (ps : List Pr) : polyM (accP [] ps) = polyM ps := poly_eq fun k => by
  rw [cp_wt, cp_wt, wt_acc]
  show (0 : Int) + _ = _; omega
theorem pr_law_mul (W : WX) (ds : List D) (r : Res) (h : fr_law_mul ds r) : FnEnd K W (t_law_mul K W) (entry N_law_mul ds) r := by
  obtain ⟨P, Q, hP, hQ, lP, lQ, bP, bQ, rfl, rfl⟩ := h
  left
  show SvD K W (t_law_mul K W) [.d (ePDict P), .d (ePDict Q), .no, .no, .no] _
  have lM : (mulP P Q).length ≤ 1000000 := by
    rw [len_mulP]
    exact Nat.le_trans (Nat.mul_le_mul lP lQ) (by decide)
  have ha := accP_len (mulP P Q) []
  have e0 : (([] : List (Int × Int))).length = 0 := rfl
  rw [e0] at ha
  unfold t_law_mul
  refine sv_seq sv_asgDK (sv_seq (sv_forKeys (s := 0) (u0 := ePDict P) rfl (keys_eP P) (run_pm hP hQ bP bQ P [] (fun _ h => h) (by rw [e0, ← len_mulP]; omega)) (fun _ _ _ z => nomatch z)) ?_)
  have h1 : EvL K (tItemsR (tVar 2)) (encPM P Q (accP [] (mulP P Q)) .no) ((accP [] (mulP P Q)).map pT) := by
    rw [← items_eP]; exact evl_items (dk_own rfl)
  refine sv_ret (ev_eq (ev_call (d := ePDict (polyM (accP [] (mulP P Q)))) (av_cons (ev_of_L h1) av_nil) ⟨_, accP [] (mulP P Q), ⟨_, isPrs_T _, .inl rfl⟩, by omega, rfl, rfl⟩) (by rw [po_acc]))
theorem sort_asc {P : List Pr} (h : PCan P) : (P.map (·.1)).mergeSort leI = P.map (·.1) := by
  refine List.mergeSort_of_pairwise ?_
  exact List.pairwise_map.mpr (h.lt.imp fun {a b} hab => by unfold leI; simp only [decide_eq_true_eq]; omega)
theorem encI_keysP (P : List Pr) : ((encI P).map fun kv => kD kv.1) = (P.map (·.1)).map D.int := by unfold encI; rw [List.map_map, List.map_map]; rfl
theorem evl_shifts {P : List Pr} (hc : PCan P) (hl : P.length ≤ 4000000) (h : EvD K te ρ (ePDict P)) : EvL K (tCB (rSortA K) (tCons (tCB rListRd (tCons te tNil)) tNil)) ρ ((P.map (·.1)).map D.int) := by
  have hk := evl_listRd (evdk_eP h)
  rw [encI_keysP] at hk
  have hs := evl_sortL (sl_d (ev_of_L hk)) (ints_pl _) (by rw [List.map_map]; exact sortOk_ints (by rw [List.length_map]; omega))
  rw [sortD_ints, sort_asc hc] at hs
  exact hs
theorem shifts_is (P : List Pr) : (P.map (·.1)).map D.int = P.map fun p => D.int p.1 := by rw [List.map_map]; rfl
theorem pr_law_pairs (W : WX) (ds : List D) (r : Res) (h : fr_law_pairs ds r) : FnEnd K W (t_law_pairs K W) (entry N_law_pairs ds) r := by
  obtain ⟨P, hc, hl, rfl, rfl⟩ := h
  left
  show SvD K W (t_law_pairs K W) [.d (ePDict P), .no] _
  refine sv_retE (ev_tupL (ds := P.map pT) (sl_d (ev_of_L ?_))) rfl
  have hs := evl_shifts (K := K) (ρ := [.d (ePDict P), .no]) (te := tVar 0) hc hl (ev_var rfl)
  rw [shifts_is] at hs
  exact evl_map (e := fun p : Pr => D.int p.1) (fun p => pT p) (wi_seqL (wi_list (ev_of_L hs))) (fun p hp => ⟨[1], _, tg_name, by simp, ev_tup (av_cons (ev_var rfl) (av_cons (ev_getP (ev_var rfl) hc hp (ev_var rfl)) av_nil)) le2⟩) (by omega)
/-! ### the normal polynomial -/
def encLN (P : List Pr) (g : Int) (s : Sl) : List Sl := [.d (ePDict P), .d (.lst ((P.map (·.1)).map D.int)), .d (.int g), .no, s]
theorem run_ln {P : List Pr} (hc : PCan P) (hb : BdP 8000 P) : ∀ (M : List Pr) (g : Int), (∀ q ∈ M, q ∈ P) → Run (Turn1 K W (gName 3) (tAsg (tCallS (SpF K P_law_gcd.length fr_law_gcd) (WE W) (tCons (tVar 2) (tCons (tDGet (tVar 0) (tVar 3)) tNil))) (gName 2))) (M.map fun p => D.int p.1) (encLN P g .no) (.nx (encLN P ((M.map (·.2)).foldl gcdI g) .no))
  | [], g, _ => .nil
  | q :: M, g, h => .go (t1_name (sv_nx (sv_asg (d := .int (gcdI g q.2)) (ev_call (av_cons (ev_var rfl) (av_cons (ev_getP (ev_var rfl) hc (h q List.mem_cons_self) (ev_var rfl)) av_nil)) ⟨g, q.2, Nat.lt_of_lt_of_le (hb q (h q List.mem_cons_self)) (Nat.pow_le_pow_right (by decide) (by decide)), rfl, rfl⟩)) [3] rfl)) (run_ln hc hb M (gcdI g q.2) fun u hu => h u (List.mem_cons_of_mem _ hu))
def nrmQ (P : List Pr) (q : Pr) : Pr := (q.1 - fstS P, q.2.fdiv (sgP P))
abbrev tbLN (K : PySem.W.Frag) : TS := sDPut (tVar 4) (tOp (rI0 fun i j => .int (i - j)) (tVar 3) (tOp (rIxA K) (tVar 1) (tC (.int 0)))) (tOp rDivA (tDGet (tVar 0) (tVar 3)) (tVar 2))
theorem ev_first {P : List Pr} (hn : P ≠ []) (h : EvD K te ρ (.lst ((P.map (·.1)).map D.int))) : EvD K (tOp (rIxA K) te (tC (.int 0))) ρ (.int (fstS P)) := by
  cases P with
  | nil => exact absurd rfl hn
  | cons p P => exact ev_ixL (i := ((0 : Nat) : Int)) (sl_d h) ev_int (atI_nat (by rfl))
theorem run_lq {P : List Pr} (hc : PCan P) (hn : P ≠ []) (hb : BdP 8000 P) (hl : P.length ≤ 4000000) : ∀ (M done : List Pr), done ++ M = P → Run (Turn1 K W (gName 3) (tbLN K)) (M.map fun p => D.int p.1) (encLN P (sgP P) (.ok (encI (done.map (nrmQ P))))) (.nx (encLN P (sgP P) (.ok (encI (P.map (nrmQ P))))))
  | [], done, e => by rw [List.append_nil] at e; rw [e]; exact .nil
  | q :: M, done, e => by
    have ih := run_lq hc hn hb hl M (done ++ [q]) (by rw [List.append_assoc]; exact e)
    have hq : q ∈ P := by rw [← e]; exact List.mem_append_right _ List.mem_cons_self
    have ll : done.length + (M.length + 1) = P.length := by rw [← e, List.length_append, List.length_cons]
    have nd := asc_nodup hc.lt
    rw [← e, List.map_append, List.map_cons] at nd
    have hnew : (nrmQ P q).1 ∉ (done.map (nrmQ P)).map (·.1) := fun z => by
      obtain ⟨u, hu, eu⟩ := List.mem_map.mp z
      obtain ⟨v, hv, rfl⟩ := List.mem_map.mp hu
      have e2 : v.1 - fstS P = q.1 - fstS P := eu
      exact (List.nodup_append.mp nd).2.2 v.1 (List.mem_map_of_mem hv) q.1 List.mem_cons_self (by omega)
    refine .go (t1_name (sv_nx (sv_putK (k := .inl (nrmQ P q).1) (d := .int (nrmQ P q).2) rfl (ev_divX (ev_getP (ev_var rfl) hc hq (ev_var rfl)) (ev_var rfl) (sgP_div hc hn hb _)) (ev_subI (ev_var rfl) (ev_first hn (ev_var rfl))) (gputI_len (by rw [List.length_map]; omega))) [3] ?_)) ih
    rw [gput_encI, gput_new hnew, List.map_append]; rfl
theorem pr_law_normal (W : WX) (ds : List D) (r : Res) (h : fr_law_normal ds r) : FnEnd K W (t_law_normal K W) (entry N_law_normal ds) r := by
  obtain ⟨P, hc, hl, hb, rfl, rfl⟩ := h
  left
  show SvD K W (t_law_normal K W) [.d (ePDict P), .no, .no, .no, .no] _
  unfold t_law_normal
  have ln : EvD K (tCB rLenD (tCons (tVar 0) tNil)) [.d (ePDict P), .no, .no, .no, .no] (.int (P.length : Int)) := ev_eq (ev_lenDK (evdk_eP (ev_var rfl))) (by unfold encI; rw [List.length_map])
  by_cases hn : P = []
  · exact sv_stop (sv_ifT (tv_eq (tv_eqI ln ev_int) (by rw [hn]; rfl)) (sv_retE ev_dnewK (by rw [hn]; rfl)))
  refine sv_seq (sv_ifF (tv_eq (tv_eqI ln ev_int) ?_) sv_next) ?_
  · have : P.length ≠ 0 := fun z => hn (List.length_eq_zero_iff.mp z)
    exact beq_eq_false_iff_ne.mpr (by omega)
  refine sv_seq (sv_asgL (evl_shifts hc hl (ev_var rfl))) (sv_frz 1 rfl rfl ?_)
  refine sv_seq (sv_asg ev_int) ?_
  show SvD K W _ (encLN P 0 .no) _
  have wi : ∀ {g : Int} {s : Sl}, WiD K (iSeq K (tVar 1)) (encLN P g s) (P.map fun p => D.int p.1) := fun {g s} => by
    rw [← shifts_is]; exact wi_seqL (wi_list (ev_var rfl))
  refine sv_seq (sv_for wi (run_ln hc hb P 0 fun _ h => h)) ?_
  show SvD K W _ (encLN P (cntP P) .no) _
  have hlast : ∀ {g : Int}, EvD K (tDGet (tVar 0) (tOp (rIxA K) (tVar 1) (tUn (rU fun i => .int (-i)) (tC (.int 1))))) (encLN P g .no) (.int (lastP P).2) := fun {g} => by
    refine ev_getP (ev_var rfl) hc (lastP_mem hn) (ev_ixL (i := -1) (sl_d (ds := (P.map (·.1)).map D.int) (ev_var rfl)) (ev_neg ev_int) ?_)
    obtain ⟨Q, hQ⟩ := lastP_snd P hn
    have : (P.map (·.1)).map D.int = (Q.map fun p => D.int p.1) ++ [D.int (lastP P).1] := by
      rw [shifts_is]
      have e2 := congrArg (List.map fun p : Pr => D.int p.1) hQ
      rw [List.map_append] at e2; exact e2
    rw [this]; exact atI_last
  refine sv_seq (ρ' := encLN P (sgP P) .no) ?_ ?_
  · rw [sgP_if]
    by_cases z : (lastP P).2 < 0
    · rw [if_pos z]
      exact sv_ifT (tv_eq (tv_cmpI (g := fun i j => decide (i < j)) hlast ev_int) (by simpa using z)) (sv_asg (ev_neg (ev_var rfl)))
    · rw [if_neg z]
      exact sv_ifF (tv_eq (tv_cmpI (g := fun i j => decide (i < j)) hlast ev_int) (by simpa using z)) sv_next
  refine sv_seq sv_asgDK ?_
  show SvD K W _ (encLN P (sgP P) (.ok (encI (([] : List Pr).map (nrmQ P))))) _
  refine sv_seq (sv_for wi (run_lq hc hn hb hl P [] rfl)) ?_
  refine sv_frz (s := .ok (encI (P.map (nrmQ P)))) 4 rfl rfl (sv_retE (ev_var rfl) ?_)
  show D.dk ((encI (nrmP P)).map (·.1)) ((encI (nrmP P)).map (·.2)) = _
  unfold ePDict encI
  rw [List.map_map, List.map_map]; rfl
theorem ev_sameP {x : D} (ha : EvD K ta ρ x) (hb : EvD K tb ρ x) {n : Nat} (h : Sh n x) (hn : n ≤ 64) : EvD K (tOp (rEqD K) ta tb) ρ (.bl true) := ev_eq (ev_op ha hb (rv_eqD (h.ok hn) (h.ok hn))) (by rw [h.refl])
theorem pr_law_is (W : WX) (ds : List D) (r : Res) (h : fr_law_is ds r) : FnEnd K W (t_law_is K W) (entry N_law_is ds) r := by
  obtain ⟨P, hc, hl, rfl, rfl⟩ := h
  left
  show SvD K W (t_law_is K W) [.d (ePoly P), .d (ePDict P)] _
  refine sv_retE (ev_andV (a := true) (b := true) (ev_call (av_cons (ev_var rfl) av_nil) ⟨P, hl, hc.lt, hc.ne, rfl, rfl⟩) fun _ => ?_) rfl
  exact ev_sameP (ev_var rfl) (ev_call (av_cons (ev_var rfl) av_nil) ⟨P, hc, by omega, rfl, rfl⟩) (sh_ePoly P) (by decide)
theorem ev_is {P : List Pr} (h1 : EvD K ta ρ (ePoly P)) (h2 : EvD K tb ρ (ePDict P)) (hc : PCan P) (hl : P.length ≤ 1000000) : EvD K (tCallS (SpF K P_law_is.length fr_law_is) (WE W) (tCons ta (tCons tb tNil))) ρ (.bl true) :=
  ev_call (av_cons h1 (av_cons h2 av_nil)) ⟨P, hc, hl, rfl, rfl⟩
/-! ### what is refused -/
theorem pr_law_another (k : KF K) (W : WX) (a C : Addr) (ds : List D) (r : Res) (h : fr_law_another K a C ds r) : FnEnd K W (t_law_another K a (.ref C) none W) (entry N_law_another ds) r := by
  obtain ⟨rfl, rfl, rfl⟩ := h
  left
  show SvD K W (t_law_another K a (.ref (He.ga K "ZeroPolynomial")) none W) [.d (.cls a)] _
  unfold t_law_another
  refine sv_ret (ev_isN (cs := (["BadName", "BadNotation", "BadParts", "BadStretch", "Barred", "BreaksOwnRule", "Broken", "CannotStand", "Contradiction", "NoFamilies", "NoQuotient", "NoRows", "NotBlocked", "NotCourse", "NotEntered", "NotFinite", "NotFree", "NotLet", "NotStricter", "NotTimely", "NothingToUndo", "RowTwice", "RowsDiffer", "ShortStretch", "SpotTwice", "TooLong", "UnknownRow", "Unsure", "ZeroSum"] : List Str).map (He.ga K)) (ev_var rfl) k.ex (ev_tup (av_clss _) (by rw [List.length_map, List.length_map]; decide)) ?_)
  rw [List.map_map]
  exact k.an
theorem sv_spanning {W' : WX} {d : D} {ps : List Pr} (hd : IsPairs d ps) (hl : ps.length ≤ 4000000) (hz : polyM ps = []) (h0 : ρ[0]? = some (.d d)) :
    SvD K W' (tDrop (tCallS (SpF K Pspan.length (frspan K)) (WE W') (tCons (tVar 0) tNil))) ρ (.er (He.ga K "ZeroPolynomial") [] ρ) :=
  sv_callEr (av_cons (ev_var h0) av_nil) ⟨d, ps, hd, hl, rfl, .inr ⟨hz, rfl⟩⟩
theorem pr_law_spanless (k : KF K) (W : WX) (ds : List D) (r : Res) (h : fr_law_spanless ds r) : FnEnd K W (t_law_spanless K W) (entry N_law_spanless ds) r := by
  obtain ⟨d, ps, hd, hl, hz, rfl, rfl⟩ := h
  left
  show SvD K W (t_law_spanless K W) [.d d, .no, .no] _
  unfold t_law_spanless
  refine sv_seq (sv_asg ev_int) ?_
  refine sv_seq (ρ' := [.d d, .d (.int 1), .no]) ?_ ?_
  · refine sv_to (sv_tryErD (o := .nx [.d d, .d (.int 1), .no]) (fun W' => sv_spanning hd hl hz rfl) k.m1 (fun a => ?_) (fun _ _ _ z => nomatch z)) rfl
    refine sv_nx (sv_ifT (tv_and (a := true) (b := true) (tv_B (ev_isC (ev_var rfl) k.ex k.i1)) fun _ => tv_and (a := true) (b := true) (tv_B (ev_isT (ev_var rfl) k.ex k.i2)) fun _ => tv_not (tv_B (ev_callY (d := .bl false) (av_cons (ev_var rfl) av_nil) ⟨rfl, rfl, rfl⟩))) (sv_asg (ev_addI (ev_var rfl) ev_int))) [2] rfl
  refine sv_seq (ρ' := [.d d, .d (.int 2), .no]) ?_ ?_
  · refine sv_to (sv_tryErD (o := .nx [.d d, .d (.int 2), .no]) (fun W' => sv_spanning hd hl hz rfl) k.m2 (fun a => ?_) (fun _ _ _ z => nomatch z)) rfl
    refine sv_nx (sv_ifT (tv_B (ev_isC (ev_var rfl) k.ex k.i3)) (sv_asg (ev_addI (ev_var rfl) ev_int))) [2] rfl
  exact sv_retE (ev_op (ev_var rfl) ev_int (rv_eqD (x := .int 2) (y := .int 2) rfl rfl)) rfl
end
end Go
set_option Elab.async false
set_option linter.all false
set_option maxRecDepth 100000
set_option maxHeartbeats 1000000
namespace Go
open PySem PySem.Spec PyProof.Rows L2 DL
section
variable {K : PySem.W.Frag} {W : WX} {ρ : List Sl} {te ta tb : TE} {d : D}
theorem ev_pl0 {p : Pr} (h : EvD K te ρ (pL p)) : EvD K (tOp (rIxA K) te (tC (.int 0))) ρ (.int p.1) := ev_ixL (i := 0) (sl_d h) ev_int rfl
theorem ev_pl1 {p : Pr} (h : EvD K te ρ (pL p)) : EvD K (tOp (rIxA K) te (tC (.int 1))) ρ (.int p.2) := ev_ixL (i := 1) (sl_d h) ev_int rfl
/-! ### drawn pairs -/
def encDr (row : List Int) (k : Nat) : List Sl := [.d (.lst (row.map D.int)), .ol ((menuR row).map D.int), .d (.int (manyR row)), .d (.int (wideR row)), .ol (((List.range k).map (pairR row)).map pL), .no, .no, .no, .no, .no]
theorem lcP {i : Nat} {g : TE} (f : Pr → Pr) {ps : List Pr} (hw : EvD K te ρ (.lst (ps.map pL))) (hl : ps.length ≤ 100000) (h : ∀ p ∈ ps, EvD K g ((wipeS ρ [i]).set i (.d (pL p))) (pL (f p))) : EvD K (tLc (iSeq K te) (gName i) tYes g [i]) ρ (.lst ((ps.map f).map pL)) := by
  rw [List.map_map]
  exact ev_of_L (evl_map (e := pL) (pL ∘ f) (wi_seqL (wi_list hw)) (fun p hp => ⟨[i], _, tg_name, by simp, h p hp⟩) (by omega))
theorem lcI {i : Nat} {g : TE} (f : Pr → Int) {ps : List Pr} (hw : EvD K te ρ (.lst (ps.map pL))) (hl : ps.length ≤ 100000) (h : ∀ p ∈ ps, EvD K g ((wipeS ρ [i]).set i (.d (pL p))) (.int (f p))) : EvD K (tLc (iSeq K te) (gName i) tYes g [i]) ρ (.lst ((ps.map f).map D.int)) := by
  rw [List.map_map]
  exact ev_of_L (evl_map (e := pL) (D.int ∘ f) (wi_seqL (wi_list hw)) (fun p hp => ⟨[i], _, tg_name, by simp, h p hp⟩) (by omega))
theorem pr_law_drawn (W : WX) (ds : List D) (r : Res) (h : fr_law_drawn ds r) : FnEnd K W (t_law_drawn K W) (entry N_law_drawn ds) r := by
  obtain ⟨row, hr, rfl, rfl⟩ := h
  left
  show SvD K W (t_law_drawn K W) [.d (.lst (row.map D.int)), .no, .no, .no, .no, .no, .no, .no, .no, .no] _
  have lr : row.length = 170 := by rw [hr.1]; decide +kernel
  obtain ⟨m0, m1⟩ := manyR_bound hr
  have r0 := row_at (k := 0) (s := 12) hr (by decide +kernel)
  have r3 := row_at (k := 3) (s := 8) hr (by decide +kernel)
  have r5 := row_at (k := 5) (s := 4) hr (by decide +kernel)
  have lB : ∀ s ∈ szR, s ≤ 100000 := by decide +kernel
  have t0 : ∀ n : Nat, n < 12 → 0 ≤ nth [0, 1, 2, 2, 3, 3, 3, 3, 3, 3, 3, 4] n ∧ nth [0, 1, 2, 2, 3, 3, 3, 3, 3, 3, 3, 4] n < 5 := by decide
  have t3 : ∀ n : Nat, n < 8 → 0 < nth [3, 4, 5, 6, 8, 12, 1, 41] n := by decide
  have wp : 0 < wideR row := t3 _ (by omega)
  have t5 : ∀ n : Nat, n < 4 → (nth [2, -3, 1000, 12] n).natAbs < 2 ^ 10 := by decide
  have fb : (facQ row).natAbs < 2 ^ 10 := t5 _ (by omega)
  have hrw : EvSL K (tVar 0) [.d (.lst (row.map D.int)), .no, .no, .no, .no, .no, .no, .no, .no, .no] (row.map D.int) := sl_d (ev_var rfl)
  unfold t_law_drawn
  refine sv_seq (sv_asgL (xs := (menuR row).map D.int) (evl_lst (av_cons (ev_nth (k := 1) hrw ev_int (by omega)) (av_cons ev_int (av_cons (ev_modI (ev_intC (ev_nth (k := 1) hrw ev_int (by omega))) ev_int (by decide)) (av_cons (ev_addI ev_int (ev_modI (ev_intC (ev_nth (k := 1) hrw ev_int (by omega))) ev_int (by decide))) (av_cons (ev_modI (ev_intC (ev_nth (k := 1) hrw ev_int (by omega))) ev_int (by decide)) av_nil))))) le5)) ?_
  refine sv_seq (sv_asg (d := .int (manyR row)) (ev_nthI (l := menuR row) (sl_own rfl)
    (ev_nthI (l := [0, 1, 2, 2, 3, 3, 3, 3, 3, 3, 3, 4]) (sl_d (ev_of_L (evl_lst (av_cons ev_int (av_cons ev_int (av_cons ev_int (av_cons ev_int (av_cons ev_int (av_cons ev_int (av_cons ev_int (av_cons ev_int (av_cons ev_int (av_cons ev_int (av_cons ev_int (av_cons ev_int av_nil)))))))))))) (by decide)))) (ev_nth (k := 0) (sl_d (ev_var rfl)) ev_int (by omega)) r0.1 (by show nth row 0 < 12; omega)) (t0 _ (by omega)).1 (t0 _ (by omega)).2)) ?_
  refine sv_seq (sv_asg (d := .int (wideR row)) (ev_nthI (l := [3, 4, 5, 6, 8, 12, 1, 41]) (sl_d (ev_of_L (evl_lst (av_cons ev_int (av_cons ev_int (av_cons ev_int (av_cons ev_int (av_cons ev_int (av_cons ev_int (av_cons ev_int (av_cons ev_int av_nil)))))))) (by decide)))) (ev_nth (k := 3) (sl_d (ev_var rfl)) ev_int (by omega)) r3.1 (by show nth row 3 < 8; omega))) ?_
  refine sv_seq (sv_asgL (evl_lst (K := K) av_nil (by decide))) ?_
  refine sv_seq (sv_for (wi_rng1 (av_cons (ev_var rfl) av_nil) (by omega) (by omega)) (run_all (encDr row) _ fun k e he => ?_)) ?_
  · have hk : k < (manyR row).toNat := by have := (List.getElem?_eq_some_iff.mp he).1; rw [rngD_length] at this; exact this
    have e2 := rngD_get he
    rw [Int.zero_add] at e2
    subst e2
    have hcut : EvL K (tSl (rSlAny K) (tVar 0) (tPart (tOp (rAddA K) (tC (.int 10)) (tOp rMulA (tC (.int 4)) (tVar 5)))) (tPart (tOp (rAddA K) (tC (.int 14)) (tOp rMulA (tC (.int 4)) (tVar 5))))) ((encDr row k).set 5 (.d (.int (k : Int)))) (DL.cutD (row.map D.int) (some (10 + 4 * (k : Int))) (some (14 + 4 * (k : Int)))) :=
      evl_slL (sl_d (ev_var rfl)) (po_is (ev_addI ev_int (ev_mulI ev_int (ev_var rfl) (mul_s (by decide) (by omega))))) (po_is (ev_addI ev_int (ev_mulI ev_int (ev_var rfl) (mul_s (by decide) (by omega)))))
    have c1 : (10 + 4 * (k : Int)) = ((10 + 4 * k : Nat) : Int) := by omega
    have c2 : (14 + 4 * (k : Int)) = ((14 + 4 * k : Nat) : Int) := by omega
    refine t1_name (sv_nx (sv_seq (sv_asgL hcut) (sv_seq (sv_asg (d := .int (pairR row k).1) (ev_subI (ev_modI (ev_intC (ev_addI (ev_nth (k := 2) (sl_d (ev_var rfl)) ev_int (by omega)) (ev_modI (ev_intC (ev_dig (row := row) (lo := 10 + 4 * k) (hi := 14 + 4 * k) (j := 0) rfl c1 c2 ev_int (by omega) (by omega))) (ev_var rfl) wp))) ev_int (by decide)) ev_int))
      (sv_app (xs := ((List.range k).map (pairR row)).map pL) (d := pL (pairR row k)) rfl (ev_of_L (evl_lst (av_cons (ev_var rfl) (av_cons (ev_call (av_cons (ev_dig (row := row) (lo := 10 + 4 * k) (hi := 14 + 4 * k) (j := 1) rfl c1 c2 ev_int (by omega) (by omega)) (av_cons (ev_dig (row := row) (lo := 10 + 4 * k) (hi := 14 + 4 * k) (j := 2) rfl c1 c2 ev_int (by omega) (by omega)) (av_cons (ev_dig (row := row) (lo := 10 + 4 * k) (hi := 14 + 4 * k) (j := 3) rfl c1 c2 ev_int (by omega) (by omega)) av_nil))) ⟨_, _, _, ?_, ?_, ?_, ?_, rfl, rfl⟩) av_nil)) le2)) ?_))) [5, 6, 7] ?_)
    · exact (row_le hr lB (by rw [← hr.1]; omega)).1
    · exact (row_le hr lB (by rw [← hr.1]; omega)).2
    · exact (row_le hr lB (by rw [← hr.1]; omega)).1
    · exact (row_le hr lB (by rw [← hr.1]; omega)).2
    · rw [List.length_map, List.length_map, List.length_range]; omega
    · show _ = encDr row (k + 1)
      unfold encDr
      rw [List.range_succ, List.map_append, List.map_append]; rfl
  · rw [rngD_length]
    refine sv_frz 4 rfl rfl ?_
    show SvD K W _ [.d (.lst (row.map D.int)), .ol ((menuR row).map D.int), .d (.int (manyR row)), .d (.int (wideR row)), .d (.lst ((baseR row).map pL)), .no, .no, .no, .no, .no] _
    have hbl : (baseR row).length = (manyR row).toNat := by unfold baseR; rw [List.length_map, List.length_range]
    have hbb := bd_baseR row
    have hdr : drawnR row = if nth row 4 = 0 ∧ 2 * manyR row ≤ 40 then baseR row ++ negP (baseR row) else if nth row 4 = 1 ∧ 2 * manyR row ≤ 40 then negP ((baseR row).take (manyR row / 2).toNat) ++ baseR row else if nth row 4 = 2 ∧ (∀ p ∈ baseR row, (p.2 * facQ row).natAbs ≤ 1000000000) then sclP (facQ row) (baseR row) else baseR row := rfl
    rw [hdr]
    generalize hB : baseR row = B at hbl hbb
    refine sv_seq (sv_asg (d := .int (facQ row)) (ev_nthI (l := [2, -3, 1000, 12]) (sl_d (ev_of_L (evl_lst (av_cons ev_int (av_cons (ev_neg ev_int) (av_cons ev_int (av_cons ev_int av_nil)))) (by decide)))) (ev_nth (k := 5) (sl_d (ev_var rfl)) ev_int (by omega)) r5.1 (by show nth row 5 < 4; omega))) ?_
    show SvD K W _ [.d (.lst (row.map D.int)), .ol ((menuR row).map D.int), .d (.int (manyR row)), .d (.int (wideR row)), .d (.lst (B.map pL)), .no, .no, .no, .d (.int (facQ row)), .no] _
    generalize hρ : ([.d (.lst (row.map D.int)), .ol ((menuR row).map D.int), .d (.int (manyR row)), .d (.int (wideR row)), .d (.lst (B.map pL)), .no, .no, .no, .d (.int (facQ row)), .no] : List Sl) = ρ'
    have v4 : EvD K (tVar 4) ρ' (.lst (B.map pL)) := by subst hρ; exact ev_var rfl
    have vk : EvD K (tOp (rIxA K) (tVar 0) (tC (.int 4))) ρ' (.int (nth row 4)) := by subst hρ; exact ev_nth (k := 4) (sl_d (ev_var rfl)) ev_int (by omega)
    have v2 : EvD K (tVar 2) ρ' (.int (manyR row)) := by subst hρ; exact ev_var rfl
    have cN : ∀ (ps : List Pr) (te : TE), EvD K te ρ' (.lst (ps.map pL)) → ps.length ≤ 1000 → EvD K (tLc (iSeq K te) (gName 9) tYes (tLst (tCons (tOp (rIxA K) (tVar 9) (tC (.int 0))) (tCons (tUn (rU fun i => .int (-i)) (tOp (rIxA K) (tVar 9) (tC (.int 1)))) tNil))) [9]) ρ' (.lst ((negP ps).map pL)) := fun ps te h hl =>
      lcP (fun p => (p.1, -p.2)) h (by omega) fun p _ => by
        subst hρ
        exact ev_of_L (evl_lst (av_cons (ev_pl0 (p := p) (ev_var rfl)) (av_cons (ev_neg (ev_pl1 (p := p) (ev_var rfl))) av_nil)) le2)
    have ln : ∀ ps : List Pr, (negP ps).length = ps.length := fun ps => List.length_map _
    by_cases c1 : nth row 4 = 0 ∧ 2 * manyR row ≤ 40
    · rw [if_pos c1]
      refine sv_stop (sv_ifT (tv_and (a := true) (b := true) (tv_eq (tv_eqI vk ev_int) (by simpa using c1.1)) fun _ => tv_eq (tv_cmpI (g := fun i j => decide (i ≤ j)) (ev_mulI ev_int v2 (mul_s (by decide) (by omega))) ev_int) (by simpa using c1.2)) (sv_retE (ev_of_L (evl_addL v4 (cN B _ v4 (by omega)) (by rw [List.length_map, List.length_map, ln]; omega))) (by rw [List.map_append])))
    · rw [if_neg c1]
      refine sv_seq (sv_ifF (tv_eq (b := false) (tv_and (a := decide (nth row 4 = 0)) (b := decide (2 * manyR row ≤ 40)) (tv_eq (tv_eqI vk ev_int) (beqI _ _)) fun _ => tv_cmpI (g := fun i j => decide (i ≤ j)) (ev_mulI ev_int v2 (mul_s (by decide) (by omega))) ev_int) (by rw [← Bool.decide_and, decide_eq_false_iff_not]; exact c1)) sv_next) ?_
      by_cases c2 : nth row 4 = 1 ∧ 2 * manyR row ≤ 40
      · rw [if_pos c2]
        have vs : EvD K (tSl (rSlAny K) (tVar 4) tNoPart (tPart (tOp rDivA (tVar 2) (tC (.int 2))))) ρ' (.lst ((B.take (manyR row / 2).toNat).map pL)) := by
          refine ev_eq (ev_of_L (evl_slL (sl_d v4) po_no (po_is (ev_divI v2 ev_int ⟨by decide, by decide⟩)))) ?_
          have hq : (manyR row / 2) = (((manyR row / 2).toNat : Nat) : Int) := by omega
          unfold DL.cutD
          rw [hq, HT.sIx_none, HT.sIx_nat, Nat.min_eq_left (by rw [List.length_map]; omega), List.drop_zero, Nat.sub_zero, ← List.map_take]
          rfl
        refine sv_stop (sv_ifT (tv_and (a := true) (b := true) (tv_eq (tv_eqI vk ev_int) (by simpa using c2.1)) fun _ => tv_eq (tv_cmpI (g := fun i j => decide (i ≤ j)) (ev_mulI ev_int v2 (mul_s (by decide) (by omega))) ev_int) (by simpa using c2.2)) (sv_retE (ev_of_L (evl_addL (cN _ _ vs (by rw [List.length_take]; omega)) v4 (by rw [List.length_map, List.length_map, ln, List.length_take]; omega))) (by rw [List.map_append])))
      · rw [if_neg c2]
        refine sv_seq (sv_ifF (tv_eq (b := false) (tv_and (a := decide (nth row 4 = 1)) (b := decide (2 * manyR row ≤ 40)) (tv_eq (tv_eqI vk ev_int) (beqI _ _)) fun _ => tv_cmpI (g := fun i j => decide (i ≤ j)) (ev_mulI ev_int v2 (mul_s (by decide) (by omega))) ev_int) (by rw [← Bool.decide_and, decide_eq_false_iff_not]; exact c2)) sv_next) ?_
        have cA : EvD K (tLc (iSeq K (tVar 4)) (gName 9) tYes (tCB rAbsC (tCons (tOp rMulA (tOp (rIxA K) (tVar 9) (tC (.int 1))) (tVar 8)) tNil)) [9]) ρ' (.lst ((B.map fun t => if t.2 * facQ row < 0 then -(t.2 * facQ row) else t.2 * facQ row).map D.int)) :=
          lcI (fun t => if t.2 * facQ row < 0 then -(t.2 * facQ row) else t.2 * facQ row) v4 (by omega) fun p hp => by
            subst hρ
            exact ev_absC (ev_mulI (ev_pl1 (p := p) (ev_var rfl)) (ev_var rfl) (mul_ok 30 10 (hbb p hp) fb (by decide)))
        obtain ⟨m, hm1, hm2⟩ := max_of (B.map fun t => if t.2 * facQ row < 0 then -(t.2 * facQ row) else t.2 * facQ row)
        have vm : EvD K (tCB (rMax K) (tCons (tOp (rAddA K) (tLst (tCons (tC (.int 0)) tNil)) (tLc (iSeq K (tVar 4)) (gName 9) tYes (tCB rAbsC (tCons (tOp rMulA (tOp (rIxA K) (tVar 9) (tC (.int 1))) (tVar 8)) tNil)) [9])) tNil)) ρ' (.int m) :=
          ev_maxL (ns := 0 :: (B.map fun t => if t.2 * facQ row < 0 then -(t.2 * facQ row) else t.2 * facQ row)) (sl_d (ev_of_L (evl_addL (ev_of_L (evl_lst (av_cons ev_int av_nil) (by decide))) cA (by rw [List.length_map, List.length_map]; simp; omega)))) hm1 hm2
        have hall : decide (m ≤ 1000000000) = decide (∀ t ∈ B, (t.2 * facQ row).natAbs ≤ 1000000000) := by
          rw [decide_eq_decide]
          constructor
          · intro hm t ht
            have := hm2 _ (List.mem_cons_of_mem _ (List.mem_map_of_mem (f := fun t : Pr => if t.2 * facQ row < 0 then -(t.2 * facQ row) else t.2 * facQ row) ht))
            revert this
            show (if t.2 * facQ row < 0 then -(t.2 * facQ row) else t.2 * facQ row) ≤ m → _
            split <;> omega
          · intro h
            rcases List.mem_cons.mp hm1 with z | z
            · omega
            · obtain ⟨t, ht, e⟩ := List.mem_map.mp z
              have := h t ht
              revert e
              show (if t.2 * facQ row < 0 then -(t.2 * facQ row) else t.2 * facQ row) = m → _
              split <;> omega
        by_cases c3 : nth row 4 = 2 ∧ (∀ t ∈ B, (t.2 * facQ row).natAbs ≤ 1000000000)
        · rw [if_pos c3]
          refine sv_stop (sv_ifT (tv_and (a := true) (b := true) (tv_eq (tv_eqI vk ev_int) (by simpa using c3.1)) fun _ => tv_eq (tv_cmpI (g := fun i j => decide (i ≤ j)) vm ev_p109) (by rw [hall]; simpa using c3.2)) (sv_ret (lcP (fun p => (p.1, p.2 * facQ row)) v4 (by omega) fun p hp => by
            subst hρ
            exact ev_of_L (evl_lst (av_cons (ev_pl0 (p := p) (ev_var rfl)) (av_cons (ev_mulI (ev_pl1 (p := p) (ev_var rfl)) (ev_var rfl) (mul_ok 30 10 (hbb p hp) fb (by decide))) av_nil)) le2))))
        · rw [if_neg c3]
          refine sv_seq (sv_ifF (tv_eq (b := false) (tv_and (a := decide (nth row 4 = 2)) (b := decide (∀ t ∈ B, (t.2 * facQ row).natAbs ≤ 1000000000)) (tv_eq (tv_eqI vk ev_int) (beqI _ _)) fun _ => tv_eq (tv_cmpI (g := fun i j => decide (i ≤ j)) vm ev_p109) hall) (by rw [← Bool.decide_and, decide_eq_false_iff_not]; exact c3)) sv_next) (sv_ret v4)
end
end Go
set_option Elab.async false
set_option linter.all false
set_option maxRecDepth 100000
set_option maxHeartbeats 1000000
namespace Go
open PySem PySem.Spec PyProof.Rows L2 DL
section
variable {K : PySem.W.Frag} {W : WX} {ρ : List Sl} {te ta tb : TE} {d : D}
/-! ### other pairs -/
theorem rev_range (ps : List Pr) : ((List.range ps.length).map fun i => pL (ps.getD (ps.length - 1 - i) (0, 0))) = ps.reverse.map pL := by
  apply List.ext_getElem
  · simp
  · intro i h1 h2
    simp at h1 h2
    simp only [List.getElem_map, List.getElem_range, List.getElem_reverse]
    rw [List.getD_eq_getElem?_getD, List.getElem?_eq_getElem (by omega)]; rfl
theorem pr_law_other_pairs (W : WX) (ds : List D) (r : Res) (h : fr_law_other_pairs ds r) : FnEnd K W (t_law_other_pairs K W) (entry N_law_other_pairs ds) r := by
  obtain ⟨ps, dg, lt, rfl, rfl⟩ := h
  left
  show SvD K W (t_law_other_pairs K W) [.d (.lst (ps.map pL)), .d (.int dg), .no, .no, .no] _
  generalize hρ : ([.d (.lst (ps.map pL)), .d (.int dg), .no, .no, .no] : List Sl) = ρ'
  have v0 : EvD K (tVar 0) ρ' (.lst (ps.map pL)) := by subst hρ; exact ev_var rfl
  have v1 : EvD K (tVar 1) ρ' (.int dg) := by subst hρ; exact ev_var rfl
  have vl : EvD K (tCB (rLenA K) (tCons (tVar 0) tNil)) ρ' (.int (ps.length : Int)) := by
    have := ev_lenL (sl_d v0)
    rw [List.length_map] at this; exact this
  unfold t_law_other_pairs
  have ho : otherR ps dg = if dg = 0 ∧ 2 * ps.length ≤ 40 then (ps.map fun p => (p.1, p.2 / 2)) ++ ps.map fun p => (p.1, p.2 - p.2 / 2) else if dg = 1 ∧ ps.length + 2 ≤ 40 then [(20, 0)] ++ ps ++ [(-20, 0)] else ps.reverse := rfl
  rw [ho]
  by_cases c1 : dg = 0 ∧ 2 * ps.length ≤ 40
  · rw [if_pos c1]
    have hH : EvD K (tLc (iSeq K (tVar 0)) (gName 3) tYes (tLst (tCons (tOp (rIxA K) (tVar 3) (tC (.int 0))) (tCons (tOp rDivA (tOp (rIxA K) (tVar 3) (tC (.int 1))) (tC (.int 2))) tNil))) [3]) ρ' (.lst ((ps.map fun p => (p.1, p.2 / 2)).map pL)) := lcP (fun p => (p.1, p.2 / 2)) v0 (by omega) fun p _ => by
      subst hρ
      exact ev_of_L (evl_lst (av_cons (ev_pl0 (p := p) (ev_var rfl)) (av_cons (ev_divI (ev_pl1 (p := p) (ev_var rfl)) ev_int ⟨by decide, by decide⟩) av_nil)) le2)
    refine sv_stop (sv_ifT (tv_and (a := true) (b := true) (tv_eq (tv_eqI v1 ev_int) (by simpa using c1.1)) fun _ => tv_eq (tv_cmpI (g := fun i j => decide (i ≤ j)) (ev_mulI ev_int vl (mul_s (by decide) (by omega))) ev_int) (by simp only [decide_eq_true_eq]; omega)) (sv_seq (sv_asg hH) ?_))
    subst hρ
    have hR : EvD K (tLc (iSeq K (tVar 0)) (gName 3) tYes (tLst (tCons (tOp (rIxA K) (tVar 3) (tC (.int 0))) (tCons (tOp (rI0 fun i j => .int (i - j)) (tOp (rIxA K) (tVar 3) (tC (.int 1))) (tOp rDivA (tOp (rIxA K) (tVar 3) (tC (.int 1))) (tC (.int 2)))) tNil))) [3]) [.d (.lst (ps.map pL)), .d (.int dg), .d (.lst ((ps.map fun p => (p.1, p.2 / 2)).map pL)), .no, .no] (.lst ((ps.map fun p => (p.1, p.2 - p.2 / 2)).map pL)) := lcP (fun p => (p.1, p.2 - p.2 / 2)) (ev_var rfl) (by omega) fun p _ => by
      exact ev_of_L (evl_lst (av_cons (ev_pl0 (p := p) (ev_var rfl)) (av_cons (ev_subI (ev_pl1 (p := p) (ev_var rfl)) (ev_divI (ev_pl1 (p := p) (ev_var rfl)) ev_int ⟨by decide, by decide⟩)) av_nil)) le2)
    exact sv_retE (ev_of_L (evl_addL (ev_var rfl) hR (by rw [List.length_map, List.length_map, List.length_map, List.length_map]; omega))) (by rw [List.map_append])
  · rw [if_neg c1]
    refine sv_seq (sv_ifF (tv_eq (b := false) (tv_and (a := decide (dg = 0)) (b := decide (2 * (ps.length : Int) ≤ 40)) (tv_eq (tv_eqI v1 ev_int) (beqI _ _)) fun _ => tv_cmpI (g := fun i j => decide (i ≤ j)) (ev_mulI ev_int vl (mul_s (by decide) (by omega))) ev_int) (by rw [← Bool.decide_and, decide_eq_false_iff_not]; omega)) sv_next) ?_
    by_cases c2 : dg = 1 ∧ ps.length + 2 ≤ 40
    · rw [if_pos c2]
      refine sv_stop (sv_ifT (tv_and (a := true) (b := true) (tv_eq (tv_eqI v1 ev_int) (by simpa using c2.1)) fun _ => tv_eq (tv_cmpI (g := fun i j => decide (i ≤ j)) (ev_addI vl ev_int) ev_int) (by simp only [decide_eq_true_eq]; omega)) (sv_retE (ev_of_L (evl_addL (ev_of_L (evl_addL (ev_of_L (evl_lst (ds := [pL (20, 0)]) (av_cons (ev_of_L (evl_lst (av_cons ev_int (av_cons ev_int av_nil)) le2)) av_nil) le1)) v0 (by rw [List.length_map]; simp; omega))) (ev_of_L (evl_lst (ds := [pL (-20, 0)]) (av_cons (ev_of_L (evl_lst (av_cons (ev_neg ev_int) (av_cons ev_int av_nil)) le2)) av_nil) le1)) (by rw [List.length_append, List.length_map]; simp; omega))) ?_))
      rw [List.map_append, List.map_append]; rfl
    · rw [if_neg c2]
      refine sv_seq (sv_ifF (tv_eq (b := false) (tv_and (a := decide (dg = 1)) (b := decide ((ps.length : Int) + 2 ≤ 40)) (tv_eq (tv_eqI v1 ev_int) (beqI _ _)) fun _ => tv_cmpI (g := fun i j => decide (i ≤ j)) (ev_addI vl ev_int) ev_int) (by rw [← Bool.decide_and, decide_eq_false_iff_not]; omega)) sv_next) ?_
      have hw : WiD K (iRng1 (tCons (tCB (rLenA K) (tCons (tVar 0) tNil)) tNil)) ρ' ((List.range ps.length).map fun i : Nat => D.int (0 + (i : Int))) := wi_rng1 (av_cons vl av_nil) (by omega) (by omega)
      have hc := evl_map (K := K) (te := tOp (rIxA K) (tVar 0) (tOp (rI0 fun i j => .int (i - j)) (tOp (rI0 fun i j => .int (i - j)) (tCB (rLenA K) (tCons (tVar 0) tNil)) (tC (.int 1))) (tVar 4))) (g := gName 4) (vs := [4]) (e := fun i : Nat => D.int (0 + (i : Int))) (as := List.range ps.length) (fun i => pL (ps.getD (ps.length - 1 - i) (0, 0))) hw (fun i hi => by
          have hi' : i < ps.length := List.mem_range.mp hi
          have hg : ps.length - 1 - i < ps.length := by omega
          refine ⟨[4], _, tg_name, by simp, ?_⟩
          subst hρ
          have w0 : EvD K (tVar 0) [.d (.lst (ps.map pL)), .d (.int dg), .no, .no, .d (.int (0 + (i : Int)))] (.lst (ps.map pL)) := ev_var rfl
          have wl : EvD K (tCB (rLenA K) (tCons (tVar 0) tNil)) [.d (.lst (ps.map pL)), .d (.int dg), .no, .no, .d (.int (0 + (i : Int)))] (.int (ps.length : Int)) := by
            have := ev_lenL (sl_d w0)
            rw [List.length_map] at this; exact this
          refine ev_ixL (i := ((ps.length - 1 - i : Nat) : Int)) (sl_d w0) (ev_eq (ev_subI (ev_subI wl ev_int) (ev_var rfl)) (by congr 1; omega)) (atI_nat ?_)
          rw [List.getElem?_map, List.getElem?_eq_getElem hg, List.getD_eq_getElem?_getD, List.getElem?_eq_getElem hg]; rfl) (by rw [List.length_range]; omega)
      rw [rev_range] at hc
      exact sv_ret (ev_of_L hc)
/-! ### one polynomial, two polynomials -/
theorem ev_poly {ps : List Pr} (h : EvD K te ρ d) (hd : IsPairs d ps) (hl : ps.length ≤ 4000000) : EvD K (tCallS (SpF K P_law_poly.length fr_law_poly) (WE W) (tCons te tNil)) ρ (ePDict (polyM ps)) := ev_call (av_cons h av_nil) ⟨d, ps, hd, hl, rfl, rfl⟩
theorem pr_law_alone (W : WX) (ds : List D) (r : Res) (h : fr_law_alone ds r) : FnEnd K W (t_law_alone K W) (entry N_law_alone ds) r := by
  obtain ⟨d, ps, hd, hl, hb, rfl, rfl⟩ := h
  left
  show SvD K W (t_law_alone K W) [.d d, .d (ePDict (polyM ps)), .no] _
  have hc := pcan_poly ps
  have lp := len_poly ps
  have ln := nrm_len (polyM ps)
  unfold t_law_alone
  refine sv_or2 (tv_not (tv_B (ev_is (P := polyM ps) (ev_call (av_cons (ev_var rfl) av_nil) ⟨d, ps, hd, by omega, rfl, rfl⟩) (ev_var rfl) hc (by omega))))
    (tv_not (tv_B (ev_is (P := nrmP (polyM ps)) (ev_call (av_cons (ev_var rfl) av_nil) ⟨d, ps, hd, by omega, hb, rfl, rfl⟩) (ev_call (av_cons (ev_var rfl) av_nil) ⟨polyM ps, hc, by omega, hb, rfl, rfl⟩) (pcan_nrm hc) (by omega)))) ?_
  have vln : EvD K (tCB rLenD (tCons (tVar 1) tNil)) [.d d, .d (ePDict (polyM ps)), .no] (.int ((polyM ps).length : Int)) := ev_eq (ev_lenDK (evdk_eP (ev_var rfl))) (by unfold encI; rw [List.length_map])
  by_cases hn : polyM ps = []
  · exact sv_stop (sv_ifT (tv_eq (tv_eqI vln ev_int) (by rw [hn]; rfl)) (sv_ret (ev_call (av_cons (ev_var rfl) av_nil) ⟨d, ps, hd, by omega, hn, rfl, rfl⟩)))
  refine sv_seq (sv_ifF (tv_eq (tv_eqI vln ev_int) ?_) sv_next) ?_
  · have : (polyM ps).length ≠ 0 := fun z => hn (List.length_eq_zero_iff.mp z)
    exact beq_eq_false_iff_ne.mpr (by omega)
  refine sv_seq (sv_asg (d := .int ((lastP (polyM ps)).1 - fstS (polyM ps))) (ev_call (av_cons (ev_var rfl) av_nil) ⟨d, ps, hd, by omega, rfl, .inl ⟨hn, rfl⟩⟩)) ?_
  have hk : EvL K (tCB rListRd (tCons (tVar 1) tNil)) [.d d, .d (ePDict (polyM ps)), .d (.int ((lastP (polyM ps)).1 - fstS (polyM ps)))] (((polyM ps).map (·.1)).map D.int) := by
    have := evl_listRd (K := K) (ρ := [.d d, .d (ePDict (polyM ps)), .d (.int ((lastP (polyM ps)).1 - fstS (polyM ps)))]) (te := tVar 1) (evdk_eP (ev_var rfl))
    rw [encI_keysP] at this; exact this
  refine sv_ret (ev_andV (a := true) (b := true) (ev_whole (ev_var rfl)) fun _ => ?_)
  refine ev_eq (ev_op (ev_var rfl) (ev_subI (ev_maxL (ns := (polyM ps).map fun p : Pr => p.1) (m := (lastP (polyM ps)).1) (sl_d (ev_of_L hk)) (List.mem_map_of_mem (f := fun p : Pr => p.1) (lastP_mem hn)) fun y hy => ?_) (ev_minL (ns := (polyM ps).map fun p : Pr => p.1) (m := fstS (polyM ps)) (sl_d (ev_of_L hk)) (fst_mem1 hn) fun y hy => ?_)) (rv_eqD (x := .int _) (y := .int _) rfl rfl)) ?_
  · obtain ⟨q, hq, rfl⟩ := List.mem_map.mp hy
    exact le_last hc hq
  · obtain ⟨q, hq, rfl⟩ := List.mem_map.mp hy
    exact fst_le hc hq
  · show D.bl (((lastP (polyM ps)).1 - fstS (polyM ps)) == ((lastP (polyM ps)).1 - fstS (polyM ps))) = _
    rw [beq_self_eq_true]
theorem ev_plus {d e : D} {ps qs : List Pr} (h1 : EvD K ta ρ d) (h2 : EvD K tb ρ e) (hd : IsPairs d ps) (he : IsPairs e qs) (lp : ps.length ≤ 1000000) (lq : qs.length ≤ 1000000) : EvD K (tCallS (SpF K Ppoly_plus.length frpoly_plus) (WE W) (tCons ta (tCons tb tNil))) ρ (ePoly (polyM (ps ++ qs))) :=
  ev_call (av_cons h1 (av_cons h2 av_nil)) ⟨d, e, ps, qs, hd, he, lp, lq, rfl, rfl⟩
theorem ev_times {d e : D} {ps qs : List Pr} (h1 : EvD K ta ρ d) (h2 : EvD K tb ρ e) (hd : IsPairs d ps) (he : IsPairs e qs) (lp : ps.length ≤ 1000) (lq : qs.length ≤ 1000) (bp : BdP 20000 ps) (bq : BdP 20000 qs) : EvD K (tCallS (SpF K Ppoly_times.length frpoly_times) (WE W) (tCons ta (tCons tb tNil))) ρ (ePoly (polyM (mulP ps qs))) :=
  ev_call (av_cons h1 (av_cons h2 av_nil)) ⟨d, e, ps, qs, hd, he, lp, lq, bp, bq, rfl, rfl⟩
theorem ev_ladd {P Q : List Pr} (h1 : EvD K ta ρ (ePDict P)) (h2 : EvD K tb ρ (ePDict Q)) (hP : PCan P) (hQ : PCan Q) (lp : P.length ≤ 1000000) (lq : Q.length ≤ 1000000) (bq : BdP 20000 Q) : EvD K (tCallS (SpF K P_law_add.length fr_law_add) (WE W) (tCons ta (tCons tb (tCons (tC (.int 1)) tNil)))) ρ (ePDict (polyM (P ++ Q))) :=
  ev_call (av_cons h1 (av_cons h2 (av_cons ev_int av_nil))) ⟨P, Q, hP, hQ, lp, lq, bq, rfl, rfl⟩
theorem ev_lmul {P Q : List Pr} (h1 : EvD K ta ρ (ePDict P)) (h2 : EvD K tb ρ (ePDict Q)) (hP : PCan P) (hQ : PCan Q) (lp : P.length ≤ 1000) (lq : Q.length ≤ 1000) (bp : BdP 20000 P) (bq : BdP 20000 Q) : EvD K (tCallS (SpF K P_law_mul.length fr_law_mul) (WE W) (tCons ta (tCons tb tNil))) ρ (ePDict (polyM (mulP P Q))) :=
  ev_call (av_cons h1 (av_cons h2 av_nil)) ⟨P, Q, hP, hQ, lp, lq, bp, bq, rfl, rfl⟩
theorem len_mul6 {ps qs : List Pr} (lp : ps.length ≤ 1000) (lq : qs.length ≤ 1000) : (polyM (mulP ps qs)).length ≤ 1000000 := by
  refine Nat.le_trans (len_poly _) ?_
  rw [len_mulP]
  exact Nat.le_trans (Nat.mul_le_mul lp lq) (by decide)
theorem pr_law_right (W : WX) (ds : List D) (r : Res) (h : fr_law_right ds r) : FnEnd K W (t_law_right K W) (entry N_law_right ds) r := by
  obtain ⟨d, e, ps, qs, hd, he, lp, lq, bp, bq, rfl, rfl⟩ := h
  left
  show SvD K W (t_law_right K W) [.d d, .d e, .d (ePDict (polyM ps)), .d (ePDict (polyM qs))] _
  have l1 := len_poly ps
  have l2 := len_poly qs
  have l3 := len_poly (ps ++ qs)
  rw [List.length_append] at l3
  have b1 : BdP 20000 (polyM ps) := bdP_mono (bd_poly (C := 10) bp (by omega)) (by decide)
  have b2 : BdP 20000 (polyM qs) := bdP_mono (bd_poly (C := 10) bq (by omega)) (by decide)
  unfold t_law_right
  refine sv_notCall (ev_is (P := polyM (ps ++ qs)) (ev_plus (ev_var rfl) (ev_var rfl) hd he (by omega) (by omega)) (ev_eq (ev_ladd (ev_var rfl) (ev_var rfl) (pcan_poly ps) (pcan_poly qs) (by omega) (by omega) b2) (by rw [po_add])) (pcan_poly _) (by omega)) ?_
  exact sv_ret (ev_is (P := polyM (mulP ps qs)) (ev_times (ev_var rfl) (ev_var rfl) hd he lp lq (bdP_mono bp (by decide)) (bdP_mono bq (by decide))) (ev_eq (ev_lmul (ev_var rfl) (ev_var rfl) (pcan_poly ps) (pcan_poly qs) (by omega) (by omega) b1 b2) (by rw [po_mul])) (pcan_poly _) (len_mul6 lp lq))
theorem is_tup (L : List Pr) : IsPairs (ePoly L) L := ⟨_, isPrs_T L, .inr rfl⟩
theorem ev_pair1 {a b : TE} {i j : Int} (ha : EvD K a ρ (.int i)) (hb : EvD K b ρ (.int j)) : EvD K (tTup (tCons (tTup (tCons a (tCons b tNil))) tNil)) ρ (ePoly [(i, j)]) := ev_tup (av_cons (ev_tup (av_cons ha (av_cons hb av_nil)) le2) av_nil) le1
theorem ev_dict1 {a b : TE} {i j : Int} (ha : EvD K a ρ (.int i)) (hb : EvD K b ρ (.int j)) : EvD K (tDisp [(a, b)]) ρ (ePDict [(i, j)]) := ev_disp1K (k := .inl i) ha hb
theorem bd_one (s c : Int) (h : c.natAbs < 2) {B : Nat} (hB : 1 ≤ B) : BdP B [(s, c)] := fun p hp => by
  rw [List.mem_singleton.mp hp]
  have : 2 ^ 1 ≤ 2 ^ B := Nat.pow_le_pow_right (by decide) hB
  show c.natAbs < _
  omega
theorem can_one (s c : Int) (h : c ≠ 0) : PCan [(s, c)] := ⟨List.pairwise_singleton _ _, fun p hp => by rw [List.mem_singleton.mp hp]; exact h⟩
theorem nextP0 (ps qs : List Pr) : nextP 0 ps qs = polyM (mulP ps qs) := rfl
theorem nextP1 (ps qs : List Pr) : nextP 1 ps qs = polyM (ps ++ qs) := rfl
theorem nextP2 (ps qs : List Pr) : nextP 2 ps qs = [] := rfl
theorem nextP3 (ps qs : List Pr) : nextP 3 ps qs = polyM (mulP ps [(3, 1)] ++ qs) := rfl
theorem pr_law_next (W : WX) (ds : List D) (r : Res) (h : fr_law_next ds r) : FnEnd K W (t_law_next K W) (entry N_law_next ds) r := by
  obtain ⟨op, d, e, ps, qs, h0, hd, he, lp, lq, bp, bq, rfl, rfl⟩ := h
  left
  show SvD K W (t_law_next K W) [.d (.int op), .d d, .d e, .d (ePDict (polyM ps)), .d (ePDict (polyM qs)), .no] _
  have l1 := len_poly ps
  have l2 := len_poly qs
  have l3 := len_poly (ps ++ qs)
  have l4 := len_poly (qs ++ ps)
  rw [List.length_append] at l3 l4
  have b1 : BdP 20000 (polyM ps) := bdP_mono (bd_poly (C := 10) bp (by omega)) (by decide)
  have b2 : BdP 20000 (polyM qs) := bdP_mono (bd_poly (C := 10) bq (by omega)) (by decide)
  have b3 : BdP 20000 (polyM (ps ++ qs)) := bdP_mono (bd_poly (C := 10) (bdP_app bp bq) (by rw [List.length_append]; omega)) (by decide)
  have b4 : BdP 20000 (polyM (qs ++ ps)) := bdP_mono (bd_poly (C := 10) (bdP_app bq bp) (by rw [List.length_append]; omega)) (by decide)
  unfold t_law_next
  refine sv_ifEq (ev_var rfl) ev_int rfl (fun e0 => ?_) fun n0 => ?_
  · subst e0
    rw [nextP0]
    exact sv_ret (ev_of_L (evl_lst (av_cons (ev_times (ev_var rfl) (ev_var rfl) hd he (by omega) (by omega) (bdP_mono bp (by decide)) (bdP_mono bq (by decide))) (av_cons (ev_eq (ev_lmul (ev_var rfl) (ev_var rfl) (pcan_poly ps) (pcan_poly qs) (by omega) (by omega) b1 b2) (by rw [po_mul])) av_nil)) le2))
  refine sv_ifEq (ev_var rfl) ev_int rfl (fun e0 => ?_) fun n1 => ?_
  · subst e0
    rw [nextP1]
    exact sv_ret (ev_of_L (evl_lst (av_cons (ev_eq (ev_plus (ev_var rfl) (ev_var rfl) he hd (by omega) (by omega)) (by rw [po_swap])) (av_cons (ev_eq (ev_ladd (ev_var rfl) (ev_var rfl) (pcan_poly ps) (pcan_poly qs) (by omega) (by omega) b2) (by rw [po_add])) av_nil)) le2))
  refine sv_ifEq (ev_var rfl) ev_int rfl (fun e0 => ?_) fun n2 => ?_
  · subst e0
    rw [nextP2]
    have lm : (polyM (mulP [(0, -1)] ps)).length ≤ 1000000 := len_mul6 (by show 1 ≤ 1000; decide) (by omega)
    exact sv_ret (ev_of_L (evl_lst (av_cons (ev_eq (ev_plus (ps := ps) (qs := polyM (mulP [(0, -1)] ps)) (ev_var rfl) (ev_times (ev_pair1 ev_int (ev_neg ev_int)) (ev_var rfl) (is_tup _) hd (by show 1 ≤ 1000; decide) (by omega) (bd_one _ _ (by decide) (by decide)) (bdP_mono bp (by decide))) hd (is_tup _) (by omega) lm) (by rw [po_gone])) (av_cons ev_dnewK av_nil)) le2))
  refine sv_ifEq (ev_var rfl) ev_int rfl (fun e0 => ?_) fun n3 => ?_
  · subst e0
    rw [nextP3]
    have lm : (polyM (mulP ps [(3, 1)])).length ≤ 200 := by
      refine Nat.le_trans (len_poly _) ?_
      rw [len_mulP]; show ps.length * 1 ≤ 200; omega
    have e1 : polyM (polyM (mulP (polyM ps) [(3, 1)]) ++ polyM qs) = polyM (mulP ps [(3, 1)] ++ qs) := poly_eq fun k => by
      rw [cp_app, cp_app, cp_poly, cp_poly, mul_cong (cp_poly ps) (fun _ => rfl)]
    exact sv_ret (ev_of_L (evl_lst (av_cons (ev_eq (ev_plus (ps := polyM (mulP ps [(3, 1)])) (qs := qs) (ev_times (ev_var rfl) (ev_pair1 ev_int ev_int) hd (is_tup _) (by omega) (by show 1 ≤ 1000; decide) (bdP_mono bp (by decide)) (bd_one _ _ (by decide) (by decide))) (ev_var rfl) (is_tup _) he (by omega) (by omega)) (by rw [po_three])) (av_cons (ev_eq (ev_ladd (P := polyM (mulP (polyM ps) [(3, 1)])) (Q := polyM qs) (ev_lmul (ev_var rfl) (ev_dict1 ev_int ev_int) (pcan_poly ps) (can_one _ _ (by decide)) (by omega) (by show 1 ≤ 1000; decide) b1 (bd_one _ _ (by decide) (by decide))) (ev_var rfl) (pcan_poly _) (pcan_poly qs) (len_mul6 (by omega) (by show 1 ≤ 1000; decide)) (by omega) b2) (by rw [e1])) av_nil)) le2))
  have e4 : nextP op ps qs = polyM (mulP (ps ++ qs) (ps ++ qs)) := by unfold nextP; rw [if_neg n0, if_neg n1, if_neg n2, if_neg n3]
  rw [e4]
  refine sv_seq (sv_asg (d := ePDict (polyM (ps ++ qs))) (ev_eq (ev_ladd (ev_var rfl) (ev_var rfl) (pcan_poly ps) (pcan_poly qs) (by omega) (by omega) b2) (by rw [po_add]))) ?_
  exact sv_ret (ev_of_L (evl_lst (av_cons (ev_eq (ev_times (ev_plus (ev_var rfl) (ev_var rfl) hd he (by omega) (by omega)) (ev_plus (ev_var rfl) (ev_var rfl) he hd (by omega) (by omega)) (is_tup _) (is_tup _) (by omega) (by omega) b3 b4) (by rw [po_four])) (av_cons (ev_eq (ev_lmul (ev_var rfl) (ev_var rfl) (pcan_poly _) (pcan_poly _) (by omega) (by omega) b3 b3) (by rw [po_mul])) av_nil)) le2))
end
end Go
set_option Elab.async false
set_option linter.all false
set_option maxRecDepth 100000
set_option maxHeartbeats 1000000
namespace Go
open PySem PySem.Spec PyProof.Rows L2 DL
/-! ### what the law goes through -/
def rowL (ns : List Int) (i : Nat) : List Int := digM (cellM ns (1 + i)) szR
def prsL (ns : List Int) (i : Nat) : List Pr := drawnR (rowL ns i)
def valL (ns : List Int) (i : Nat) : D := passP (prsL ns i) (nth (rowL ns i) 6)
def lastL (ns : List Int) : Nat → D × List Pr
  | 0 => (.lst [pL (0, 1)], [(0, 1)])
  | i + 1 => (valL ns i, prsL ns i)
def newL (ns : List Int) (i : Nat) (L : List Pr) : List Pr := nextP (nth (rowL ns i) 7 % 5) L (prsL ns i)
def toldL (ns : List Int) : Nat → List Pr
  | 0 => [(0, 1)]
  | i + 1 => if (newL ns i (toldL ns i)).length ≤ 120 then newL ns i (toldL ns i) else toldL ns i
def bL : Nat → Nat
  | 0 => 54
  | i + 1 => 2 * bL i + 16
theorem bL_ge : ∀ i : Nat, 54 ≤ bL i
  | 0 => Nat.le_refl _
  | i + 1 => by have := bL_ge i; show 54 ≤ 2 * bL i + 16; omega
theorem bL_le {i : Nat} (h : i ≤ 6) : bL i ≤ 5000 := by
  have : ∀ i : Nat, i < 7 → bL i ≤ 5000 := by decide
  exact this i (by omega)
theorem szR_ok : ∀ s ∈ szR, 0 < s ∧ s < 1073741824 := by decide +kernel
theorem rowL_ok (ns : List Int) (i : Nat) : rowOk szR (rowL ns i) := rowOk_dig _ fun s hs => (szR_ok s hs).1
theorem prsL_len (ns : List Int) (i : Nat) : (prsL ns i).length ≤ 80 := drawnR_len (rowL_ok ns i)
theorem prsL_bd (ns : List Int) (i : Nat) : BdP 30 (prsL ns i) := drawnR_bd _
structure NxOk (B : Nat) (L : List Pr) : Prop where
  can : PCan L
  bd : BdP B L
theorem next_ok {B : Nat} (hB : 54 ≤ B) {L ps : List Pr} (hl : L.length ≤ 120) (hb : BdP B L) (lp : ps.length ≤ 80) (bp : BdP 30 ps) (op : Int) : NxOk (2 * B + 16) (nextP op L ps) := by
  unfold nextP
  have ba : BdP B (L ++ ps) := bdP_app hb (bdP_mono bp (by omega))
  have la : (L ++ ps).length ≤ 200 := by rw [List.length_append]; omega
  split
  · refine ⟨pcan_poly _, bdP_mono (bd_poly (B := B + 30) (C := 14) (bd_mulP hb bp) ?_) (by omega)⟩
    rw [len_mulP]
    exact Nat.lt_of_le_of_lt (Nat.mul_le_mul hl lp) (by decide)
  · split
    · exact ⟨pcan_poly _, bdP_mono (bd_poly (C := 8) ba (by omega)) (by omega)⟩
    · split
      · exact ⟨⟨List.Pairwise.nil, fun _ h => nomatch h⟩, fun _ h => nomatch h⟩
      · split
        · refine ⟨pcan_poly _, bdP_mono (bd_poly (B := B + 1) (C := 8) (bdP_app (bd_mulP hb (bd_one 3 1 (by decide) (by decide))) (bdP_mono bp (by omega))) ?_) (by omega)⟩
          rw [List.length_append, len_mulP]
          show L.length * 1 + ps.length < 256
          omega
        · refine ⟨pcan_poly _, bdP_mono (bd_poly (B := B + B) (C := 16) (bd_mulP ba ba) ?_) (by omega)⟩
          rw [len_mulP]
          exact Nat.lt_of_le_of_lt (Nat.mul_le_mul la la) (by decide)
structure TdOk (B : Nat) (L : List Pr) : Prop where
  can : PCan L
  len : L.length ≤ 120
  bd : BdP B L
theorem told_ok (ns : List Int) : ∀ i : Nat, TdOk (bL i) (toldL ns i)
  | 0 => ⟨can_one 0 1 (by decide), by show 1 ≤ 120; decide, bd_one 0 1 (by decide) (by decide)⟩
  | i + 1 => by
    obtain ⟨h1, h2, h3⟩ := told_ok ns i
    have hn := next_ok (bL_ge i) h2 h3 (prsL_len ns i) (prsL_bd ns i) (nth (rowL ns i) 7 % 5)
    show TdOk (2 * bL i + 16) (if (newL ns i (toldL ns i)).length ≤ 120 then newL ns i (toldL ns i) else toldL ns i)
    split
    · rename_i h
      exact ⟨hn.can, h, hn.bd⟩
    · exact ⟨h1, h2, bdP_mono h3 (by omega)⟩
structure LsOk (x : D × List Pr) : Prop where
  is : IsPairs x.1 x.2
  len : x.2.length ≤ 80
  bd : BdP 30 x.2
theorem last_ok (ns : List Int) : ∀ i : Nat, LsOk (lastL ns i)
  | 0 => ⟨⟨_, .lst (p := (0, 1)) .nil, .inl rfl⟩, by show 1 ≤ 80; decide, bd_one 0 1 (by decide) (by decide)⟩
  | i + 1 => ⟨passP_is _ _, prsL_len ns i, prsL_bd ns i⟩
section
variable {K : PySem.W.Frag} {W : WX} {ρ : List Sl} {te ta tb tc td : TE} {d : D}
theorem ev_alone {ps P : List Pr} (h1 : EvD K ta ρ d) (h2 : EvD K tb ρ (ePDict P)) (hd : IsPairs d ps) (hl : ps.length ≤ 1000) (hb : BdP 7000 ps) (e : P = polyM ps) : EvD K (tCallS (SpF K P_law_alone.length fr_law_alone) (WE W) (tCons ta (tCons tb tNil))) ρ (.bl true) := by
  subst e
  exact ev_call (av_cons h1 (av_cons h2 av_nil)) ⟨d, ps, hd, by omega, bdP_mono (bd_poly (C := 10) hb (by omega)) (by decide), rfl, rfl⟩
theorem ev_right {x y : D} {ps qs P Q : List Pr} (h1 : EvD K ta ρ x) (h2 : EvD K tb ρ y) (h3 : EvD K tc ρ (ePDict P)) (h4 : EvD K td ρ (ePDict Q)) (hd : IsPairs x ps) (he : IsPairs y qs) (lp : ps.length ≤ 1000) (lq : qs.length ≤ 1000) (bp : BdP 7000 ps) (bq : BdP 7000 qs) (e1 : P = polyM ps) (e2 : Q = polyM qs) :
    EvD K (tCallS (SpF K P_law_right.length fr_law_right) (WE W) (tCons ta (tCons tb (tCons tc (tCons td tNil))))) ρ (.bl true) := by
  subst e1; subst e2
  exact ev_call (av_cons h1 (av_cons h2 (av_cons h3 (av_cons h4 av_nil)))) ⟨x, y, ps, qs, hd, he, lp, lq, bdP_mono bp (by decide), bdP_mono bq (by decide), rfl, rfl⟩
def encZ (ns : List Int) (many : Int) (i : Nat) : List Sl := [.d (.scr ns), .d (.int many), .d (ePoly (toldL ns i)), .d (ePDict (toldL ns i)), .d (lastL ns i).1, .d (ePDict (polyM (lastL ns i).2)), .no, .no, .no, .no, .no, .no, .no, .no]
theorem frz_szR : Sl.frz (.ol ([D.int 12, D.int 41, D.int 41, D.int 8, D.int 12, D.int 4, D.int 5, D.int 9, D.int 5, D.int 3] ++ (List.replicate (40 : Int).toNat [D.int 41, D.int 12, D.int 100000, D.int 100000]).flatten)) = D.lst (szR.map D.int) := by rfl
theorem pr_law (W : WX) (ds : List D) (r : Res) (h : frlaw ds r) : FnEnd K W (tlaw K W) (entry Nlaw ds) r := by
  obtain ⟨ns, ln, rfl, rfl⟩ := h
  left
  show SvD K W (tlaw K W) [.d (.scr ns), .no, .no, .no, .no, .no, .no, .no, .no, .no, .no, .no, .no, .no] _
  unfold tlaw
  have d8 : rowOk [8] (digM (cellM ns 0) [8]) := rowOk_dig _ (by decide)
  have d8' := row_at (k := 0) (s := 8) d8 rfl
  have t8 : ∀ n : Nat, n < 8 → 0 ≤ nth [3, 3, 2, 2, 4, 2, 3, 6] n ∧ nth [3, 3, 2, 2, 4, 2, 3, 6] n ≤ 6 := by decide
  refine sv_seq (sv_asg (d := .int (nth [3, 3, 2, 2, 4, 2, 3, 6] (nth (digM (cellM ns 0) [8]) 0).toNat)) (ev_nthI (l := [3, 3, 2, 2, 4, 2, 3, 6]) (sl_d (ev_of_L (evl_lst (av_cons ev_int (av_cons ev_int (av_cons ev_int (av_cons ev_int (av_cons ev_int (av_cons ev_int (av_cons ev_int (av_cons ev_int av_nil)))))))) (by decide)))) (ev_nth (k := 0) (sl_d (ev_digits (ev_cell (k := 0) (ev_var rfl) ev_int (by decide)) (sz := [8]) (ev_of_L (evl_lst (av_cons ev_int av_nil) le1)) (by decide) (by decide))) ev_int (by rw [d8.1]; decide)) d8'.1 (by show nth _ 0 < 8; omega))) ?_
  obtain ⟨many, hmany⟩ : ∃ m, m = nth [3, 3, 2, 2, 4, 2, 3, 6] (nth (digM (cellM ns 0) [8]) 0).toNat := ⟨_, rfl⟩
  have hm := t8 (nth (digM (cellM ns 0) [8]) 0).toNat (by omega)
  rw [← hmany] at hm ⊢
  refine sv_seq (sv_asg (d := ePoly [(0, 1)]) (ev_pair1 ev_int ev_int)) ?_
  refine sv_seq (sv_asg (d := ePDict [(0, 1)]) (ev_dict1 ev_int ev_int)) ?_
  refine sv_seq (sv_asg (d := .lst [pL (0, 1)]) (ev_of_L (evl_lst (av_cons (ev_of_L (evl_lst (av_cons ev_int (av_cons ev_int av_nil)) le2)) av_nil) le1))) ?_
  refine sv_seq (sv_asg (d := ePDict (polyM [(0, 1)])) (ev_eq (ev_dict1 ev_int ev_int) (by rw [po_one 0 1 (by decide)]))) ?_
  show SvD K W _ (encZ ns many 0) _
  refine sv_seq (sv_for (wi_rng1 (av_cons (ev_var rfl) av_nil) (by omega) (by omega)) (run_all (encZ ns many) _ fun i e he => ?_)) ?_
  · have hi : i < many.toNat := by have := (List.getElem?_eq_some_iff.mp he).1; rw [rngD_length] at this; exact this
    have e2 := rngD_get he
    rw [Int.zero_add] at e2
    subst e2
    have hi6 : i ≤ 6 := by omega
    obtain ⟨c1, c2, c3⟩ := told_ok ns i
    obtain ⟨l1, l2, l3⟩ := last_ok ns i
    have hnx := next_ok (bL_ge i) c2 c3 (prsL_len ns i) (prsL_bd ns i) (nth (rowL ns i) 7 % 5)
    have bi := bL_le hi6
    have hT : toldL ns (i + 1) = if (newL ns i (toldL ns i)).length ≤ 120 then newL ns i (toldL ns i) else toldL ns i := rfl
    have hL : lastL ns (i + 1) = (valL ns i, prsL ns i) := rfl
    have hz1 : encZ ns many (i + 1) = [.d (.scr ns), .d (.int many), .d (ePoly (toldL ns (i + 1))), .d (ePDict (toldL ns (i + 1))), .d (valL ns i), .d (ePDict (polyM (prsL ns i))), .no, .no, .no, .no, .no, .no, .no, .no] := rfl
    rw [hz1, hT]
    have hz : encZ ns many i = [.d (.scr ns), .d (.int many), .d (ePoly (toldL ns i)), .d (ePDict (toldL ns i)), .d (lastL ns i).1, .d (ePDict (polyM (lastL ns i).2)), .no, .no, .no, .no, .no, .no, .no, .no] := rfl
    rw [hz]
    unfold newL
    unfold valL
    have lp := prsL_len ns i
    have bp := prsL_bd ns i
    have hr := rowL_ok ns i
    have hrow : digM (cellM ns (1 + i)) szR = rowL ns i := rfl
    have hprs : drawnR (rowL ns i) = prsL ns i := rfl
    generalize toldL ns i = L at *
    generalize lastL ns i = la at *
    obtain ⟨ld, lps⟩ := la
    have r7 := row_at (k := 7) (s := 9) hr (by decide +kernel)
    have lr : (rowL ns i).length = 170 := by rw [hr.1]; decide +kernel
    generalize rowL ns i = row at *
    generalize prsL ns i = ps at *
    have v : ∀ {ρ : List Sl} (k : Nat), k < 170 → ρ[8]? = some (.d (.lst (row.map D.int))) → EvD K (tOp (rIxA K) (tVar 8) (tC (.int (k : Int)))) ρ (.int (nth row k)) := fun k hk h => ev_nth (sl_d (ev_var h)) ev_int (by omega)
    have lo := otherR_len lp (nth row 9)
    have bo := otherR_bd bp (nth row 9)
    have eo := po_other ps (nth row 9)
    obtain ⟨again, hag⟩ : ∃ x, x = passP (otherR ps (nth row 9)) (nth row 8) := ⟨_, rfl⟩
    obtain ⟨value, hva⟩ : ∃ x, x = passP ps (nth row 6) := ⟨_, rfl⟩
    have i1 : IsPairs value ps := by rw [hva]; exact passP_is _ _
    have i2 : IsPairs again (otherR ps (nth row 9)) := by rw [hag]; exact passP_is _ _
    have i3 := is_tup L
    have eL := poly_self c1
    have b7 : BdP 7000 L := bdP_mono c3 (by omega)
    have passV : ∀ {ρ : List Sl}, ρ[9]? = some (.d (.lst (ps.map pL))) → ρ[8]? = some (.d (.lst (row.map D.int))) → EvD K (tCallS (SpF K P_law_passed.length fr_law_passed) (WE W) (tCons (tVar 9) (tCons (tOp (rIxA K) (tVar 8) (tC (.int 6))) tNil))) ρ value := fun h9 h8 => by
      rw [hva]; exact ev_call (av_cons (ev_var h9) (av_cons (v 6 (by decide) h8) av_nil)) ⟨ps, nth row 6, by omega, rfl, rfl⟩
    have passG : ∀ {ρ : List Sl}, ρ[9]? = some (.d (.lst (ps.map pL))) → ρ[8]? = some (.d (.lst (row.map D.int))) → EvD K (tCallS (SpF K P_law_passed.length fr_law_passed) (WE W) (tCons (tCallS (SpF K P_law_other_pairs.length fr_law_other_pairs) (WE W) (tCons (tVar 9) (tCons (tOp (rIxA K) (tVar 8) (tC (.int 9))) tNil))) (tCons (tOp (rIxA K) (tVar 8) (tC (.int 8))) tNil))) ρ again := fun h9 h8 => by
      rw [hag]; exact ev_call (av_cons (ev_call (av_cons (ev_var h9) (av_cons (v 9 (by decide) h8) av_nil)) ⟨ps, nth row 9, by omega, rfl, rfl⟩) (av_cons (v 8 (by decide) h8) av_nil)) ⟨otherR ps (nth row 9), nth row 8, by omega, rfl, rfl⟩
    obtain ⟨Nx, hNx⟩ : ∃ x, x = nextP (nth row 7 % 5) L ps := ⟨_, rfl⟩
    rw [← hNx, ← hva]
    rw [← hNx] at hnx
    have lNx : Nx.length ≤ 1000000 := by
      rw [hNx]
      unfold nextP
      split
      · exact len_mul6 (by omega) (by omega)
      · split
        · exact Nat.le_trans (len_poly _) (by rw [List.length_append]; omega)
        · split
          · exact Nat.zero_le _
          · split
            · exact Nat.le_trans (len_poly _) (by rw [List.length_append, len_mulP]; show L.length * 1 + _ ≤ _; omega)
            · exact len_mul6 (by rw [List.length_append]; omega) (by rw [List.length_append]; omega)
    refine t1_name (sv_nx (show SvD K W _ _ (.nx [.d (.scr ns), .d (.int many), .d (ePoly (if Nx.length ≤ 120 then Nx else L)), .d (ePDict (if Nx.length ≤ 120 then Nx else L)), .d value, .d (ePDict (polyM ps)), .d (.int (i : Int)), .d (.lst (szR.map D.int)), .d (.lst (row.map D.int)), .d (.lst (ps.map pL)), .d (ePDict (polyM ps)), .d value, .d again, .d (.lst [ePoly Nx, ePDict Nx])]) from ?_) [6, 7, 8, 9, 10, 11, 12, 13] rfl)
    refine sv_seq (sv_asgL (evl_addL (ev_of_L (evl_lst (av_cons ev_int (av_cons ev_int (av_cons ev_int (av_cons ev_int (av_cons ev_int (av_cons ev_int (av_cons ev_int (av_cons ev_int (av_cons ev_int (av_cons ev_int av_nil)))))))))) (by decide))) (ev_of_L (evl_rep (ev_of_L (evl_lst (av_cons ev_int (av_cons ev_int (av_cons ev_int (av_cons ev_int av_nil)))) (by decide))) ev_int (by decide) (by decide) (by decide))) (by decide +kernel))) (sv_frz 7 rfl rfl ?_)
    refine sv_seq (sv_asg (d := .lst (row.map D.int)) (ev_eq (ev_digits (ev_cell (k := 1 + i) (ev_var rfl) (ev_eq (ev_addI ev_int (ev_var rfl)) (by congr 1)) (by omega)) (sz := szR) (ev_eq (ev_var rfl) frz_szR) szR_ok (by decide +kernel)) (by rw [hrow]))) ?_
    refine sv_seq (sv_asg (d := .lst (ps.map pL)) (ev_call (av_cons (ev_var rfl) av_nil) ⟨row, hr, rfl, by rw [hprs]⟩)) ?_
    refine sv_seq (sv_asg (d := ePDict (polyM ps)) (ev_poly (ev_var rfl) ⟨_, isPrs_L ps, .inl rfl⟩ (by omega))) ?_
    refine sv_seq (sv_asg (d := value) (passV rfl rfl)) ?_
    refine sv_seq (sv_asg (d := again) (passG rfl rfl)) ?_
    refine sv_seq (sv_ifF (tv_or (a := false) (b := false) (tv_not (tv_B (ev_alone (ps := ps) (ev_var rfl) (ev_var rfl) i1 (by omega) (bdP_mono bp (by decide)) rfl))) fun _ => tv_or (a := false) (b := false) (tv_not (tv_B (ev_alone (ps := otherR ps (nth row 9)) (ev_var rfl) (ev_var rfl) i2 (by omega) (bdP_mono bo (by decide)) eo.symm))) fun _ => tv_not (tv_B (ev_alone (ps := L) (ev_var rfl) (ev_var rfl) i3 (by omega) b7 eL.symm))) sv_next) ?_
    refine sv_or2 (tv_not (tv_B (ev_right (ps := ps) (qs := lps) (ev_var rfl) (ev_var rfl) (ev_var rfl) (ev_var rfl) i1 l1 (by omega) (Nat.le_trans l2 (by decide)) (bdP_mono bp (by decide)) (bdP_mono l3 (by decide)) rfl rfl))) (tv_not (tv_B (ev_right (ps := otherR ps (nth row 9)) (qs := ps) (ev_var rfl) (ev_var rfl) (ev_var rfl) (ev_var rfl) i2 i1 (by omega) (by omega) (bdP_mono bo (by decide)) (bdP_mono bp (by decide)) eo.symm rfl))) ?_
    refine sv_or2 (tv_not (tv_B (ev_right (ps := ps) (qs := ps) (ev_var rfl) (ev_var rfl) (ev_var rfl) (ev_var rfl) i1 i1 (by omega) (by omega) (bdP_mono bp (by decide)) (bdP_mono bp (by decide)) rfl rfl))) (tv_not (tv_B (ev_right (ps := L) (qs := otherR ps (nth row 9)) (ev_var rfl) (ev_var rfl) (ev_var rfl) (ev_var rfl) i3 i2 (by omega) (by omega) b7 (bdP_mono bo (by decide)) eL.symm eo.symm))) ?_
    have lpp := len_poly ps
    have lpL := len_poly (ps ++ L)
    rw [List.length_append] at lpL
    refine sv_or2 (tv_not (tv_B (ev_right (ps := L) (qs := ps) (ev_var rfl) (ev_var rfl) (ev_var rfl) (ev_var rfl) i3 i1 (by omega) (by omega) b7 (bdP_mono bp (by decide)) eL.symm rfl))) (tv_not (tv_B (ev_is (P := polyM (ps ++ L)) (ev_plus (ev_var rfl) (ev_var rfl) i1 i3 (by omega) (by omega)) (ev_eq (ev_ladd (P := polyM ps) (Q := L) (ev_var rfl) (ev_var rfl) (pcan_poly ps) c1 (by omega) (by omega) (bdP_mono b7 (by decide))) (by rw [← po_add ps L, eL])) (pcan_poly _) (by omega)))) ?_
    refine sv_or2 (tv_not (tv_B (ev_right (ps := [(0, -1)]) (qs := L) (ev_pair1 ev_int (ev_neg ev_int)) (ev_var rfl) (ev_dict1 ev_int (ev_neg ev_int)) (ev_var rfl) (is_tup _) i3 (by show 1 ≤ 1000; decide) (by omega) (bd_one _ _ (by decide) (by decide)) b7 (po_one _ _ (by decide)).symm eL.symm))) (tv_not (tv_B (ev_right (ps := L) (qs := [(3, 1)]) (ev_var rfl) (ev_pair1 ev_int ev_int) (ev_var rfl) (ev_dict1 ev_int ev_int) i3 (is_tup _) (by omega) (by show 1 ≤ 1000; decide) b7 (bd_one _ _ (by decide) (by decide)) eL.symm (po_one _ _ (by decide)).symm))) ?_
    refine sv_seq (sv_asg (d := .lst [ePoly Nx, ePDict Nx]) (ev_call (av_cons (ev_modI (ev_intC (v 7 (by decide) rfl)) ev_int (by decide)) (av_cons (ev_var rfl) (av_cons (ev_var rfl) (av_cons (ev_var rfl) (av_cons (ev_var rfl) av_nil))))) ⟨nth row 7 % 5, ePoly L, value, L, ps, Int.emod_nonneg _ (by decide), i3, i1, by omega, by omega, bdP_mono b7 (by decide), bdP_mono bp (by decide), by rw [eL], by rw [hNx]⟩)) ?_
    have s0 : ∀ {ρ : List Sl}, ρ[13]? = some (.d (.lst [ePoly Nx, ePDict Nx])) → EvD K (tOp (rIxA K) (tVar 13) (tC (.int 0))) ρ (ePoly Nx) := fun h => ev_ixL (i := 0) (sl_d (ev_var h)) ev_int rfl
    have s1 : ∀ {ρ : List Sl}, ρ[13]? = some (.d (.lst [ePoly Nx, ePDict Nx])) → EvD K (tOp (rIxA K) (tVar 13) (tC (.int 1))) ρ (ePDict Nx) := fun h => ev_ixL (i := 1) (sl_d (ev_var h)) ev_int rfl
    refine sv_or2 (tv_not (tv_B (ev_is (P := Nx) (s0 rfl) (s1 rfl) hnx.can lNx))) (tv_same (ev_var rfl) (passV rfl rfl) (sh_pairs i1) (by decide)) ?_
    refine sv_seq (sv_ifF (tv_same (ev_var rfl) (passG rfl rfl) (sh_pairs i2) (by decide)) sv_next) ?_
    refine sv_seq (ρ' := [.d (.scr ns), .d (.int many), .d (ePoly (if Nx.length ≤ 120 then Nx else L)), .d (ePDict (if Nx.length ≤ 120 then Nx else L)), .d ld, .d (ePDict (polyM lps)), .d (.int (i : Int)), .d (.lst (szR.map D.int)), .d (.lst (row.map D.int)), .d (.lst (ps.map pL)), .d (ePDict (polyM ps)), .d value, .d again, .d (.lst [ePoly Nx, ePDict Nx])]) ?_ (sv_seq (sv_asg (ev_var rfl)) (sv_asg (ev_var rfl)))
    have tl : TvD K (tTest (tOp (rI0 fun i j => .bl (decide (i ≤ j))) (tCB rLenD (tCons (tOp (rIxA K) (tVar 13) (tC (.int 1))) tNil)) (tC (.int 120)))) [.d (.scr ns), .d (.int many), .d (ePoly L), .d (ePDict L), .d ld, .d (ePDict (polyM lps)), .d (.int (i : Int)), .d (.lst (szR.map D.int)), .d (.lst (row.map D.int)), .d (.lst (ps.map pL)), .d (ePDict (polyM ps)), .d value, .d again, .d (.lst [ePoly Nx, ePDict Nx])] (decide (Nx.length ≤ 120)) := by
      have ll : EvD K (tCB rLenD (tCons (tOp (rIxA K) (tVar 13) (tC (.int 1))) tNil)) [.d (.scr ns), .d (.int many), .d (ePoly L), .d (ePDict L), .d ld, .d (ePDict (polyM lps)), .d (.int (i : Int)), .d (.lst (szR.map D.int)), .d (.lst (row.map D.int)), .d (.lst (ps.map pL)), .d (ePDict (polyM ps)), .d value, .d again, .d (.lst [ePoly Nx, ePDict Nx])] (.int (Nx.length : Int)) := ev_eq (ev_lenDK (evdk_eP (s1 rfl))) (by unfold encI; rw [List.length_map])
      refine tv_eq (tv_cmpI (g := fun i j => decide (i ≤ j)) ll ev_int) ?_
      rw [decide_eq_decide]; omega
    by_cases z : Nx.length ≤ 120
    · rw [if_pos z]
      exact sv_ifT (tv_eq tl (decide_eq_true z)) (sv_seq (sv_asg (s0 rfl)) (sv_asg (s1 rfl)))
    · rw [if_neg z]
      exact sv_ifF (tv_eq tl (decide_eq_false z)) sv_next
  · rw [rngD_length]
    have hi6 : (many - 0).toNat ≤ 6 := by omega
    obtain ⟨c1, c2, c3⟩ := told_ok ns many.toNat
    have := bL_le (i := many.toNat) (by omega)
    exact sv_ret (ev_alone (ps := toldL ns many.toNat) (ev_var rfl) (ev_var rfl) (is_tup _) (by omega) (bdP_mono c3 (by omega)) (poly_self c1).symm)
end
end Go
set_option Elab.async false
set_option linter.all false
set_option maxRecDepth 100000
set_option maxHeartbeats 0
namespace Go
open PySem PySem.Spec PyProof.Rows L2 DL
theorem factsL {P : Program} {w : World} {K : PySem.W.Frag} {h : Heap} {mg : Str → Option Value} {f : Addr} (X : K.In h) (G : h.Ns mainGlobals mg) (hfa : mg ("law" : Str) = some (.ref f)) (c : He.SaysD faL fnL K) (cx : exL K = true) :
    ∃ fd : FuncData, (∀ (s : Shared) (v : Value), BindsTo s fd ⟨[v], []⟩ [("script", v)]) ∧ ∀ base : Heap, K.In base → base.Ns mainGlobals mg → FnOk P w K mg base (L2N.CX P w) 5 f fd Plaw (SpF K Plaw.length frlaw) := by
  obtain ⟨z0, y0⟩ := He.ba cx
  obtain ⟨z1, y1⟩ := He.ba y0
  obtain ⟨z2, y2⟩ := He.ba y1
  obtain ⟨z3, y3⟩ := He.ba y2
  obtain ⟨z4, y4⟩ := He.ba y3
  obtain ⟨z5, y5⟩ := He.ba y4
  obtain ⟨z6, y6⟩ := He.ba y5
  have z7 := y6
  have B : Bt K mg := ⟨He.free_ok X G (c.fact 31 (f := .free "ValueError") rfl), He.free_ok X G (c.fact 32 (f := .free "abs") rfl), He.free_ok X G (c.fact 33 (f := .free "bool") rfl), He.free_ok X G (c.fact 34 (f := .free "int") rfl), He.free_ok X G (c.fact 35 (f := .free "isinstance") rfl), He.free_ok X G (c.fact 36 (f := .free "len") rfl), He.free_ok X G (c.fact 37 (f := .free "list") rfl), He.free_ok X G (c.fact 38 (f := .free "max") rfl), He.free_ok X G (c.fact 39 (f := .free "min") rfl), He.free_ok X G (c.fact 40 (f := .free "range") rfl), He.free_ok X G (c.fact 41 (f := .free "sorted") rfl), He.free_ok X G (c.fact 42 (f := .free "tuple") rfl), He.glo_ok X G (c.fact 43 (f := .glo "BadName") rfl), He.glo_ok X G (c.fact 44 (f := .glo "BadNotation") rfl), He.glo_ok X G (c.fact 45 (f := .glo "BadParts") rfl), He.glo_ok X G (c.fact 46 (f := .glo "BadStretch") rfl), He.glo_ok X G (c.fact 47 (f := .glo "Barred") rfl), He.glo_ok X G (c.fact 48 (f := .glo "BreaksOwnRule") rfl), He.glo_ok X G (c.fact 49 (f := .glo "Broken") rfl), He.glo_ok X G (c.fact 50 (f := .glo "CannotStand") rfl), He.glo_ok X G (c.fact 51 (f := .glo "Contradiction") rfl), He.glo_ok X G (c.fact 52 (f := .glo "NoFamilies") rfl), He.glo_ok X G (c.fact 53 (f := .glo "NoQuotient") rfl), He.glo_ok X G (c.fact 54 (f := .glo "NoRows") rfl), He.glo_ok X G (c.fact 55 (f := .glo "NotBlocked") rfl), He.glo_ok X G (c.fact 56 (f := .glo "NotCourse") rfl), He.glo_ok X G (c.fact 57 (f := .glo "NotEntered") rfl), He.glo_ok X G (c.fact 58 (f := .glo "NotFinite") rfl), He.glo_ok X G (c.fact 59 (f := .glo "NotFree") rfl), He.glo_ok X G (c.fact 60 (f := .glo "NotLet") rfl), He.glo_ok X G (c.fact 61 (f := .glo "NotStricter") rfl), He.glo_ok X G (c.fact 62 (f := .glo "NotTimely") rfl), He.glo_ok X G (c.fact 63 (f := .glo "NothingToUndo") rfl), He.glo_ok X G (c.fact 64 (f := .glo "RowError") rfl), He.glo_ok X G (c.fact 65 (f := .glo "RowTwice") rfl), He.glo_ok X G (c.fact 66 (f := .glo "RowsDiffer") rfl), He.glo_ok X G (c.fact 67 (f := .glo "ShortStretch") rfl), He.glo_ok X G (c.fact 68 (f := .glo "SpotTwice") rfl), He.glo_ok X G (c.fact 69 (f := .glo "TooLong") rfl), He.glo_ok X G (c.fact 70 (f := .glo "UnknownRow") rfl), He.glo_ok X G (c.fact 71 (f := .glo "Unsure") rfl), He.glo_ok X G (c.fact 72 (f := .glo "ZeroPolynomial") rfl), He.glo_ok X G (c.fact 73 (f := .glo "ZeroSum") rfl), gloB_ok X G z0, errF_ok (c.fact 74 (f := .exc "ZeroPolynomial") rfl)⟩
  have k : KF K := ⟨excB_ok z1, ifTrue_ok z2, ifTrue_ok z3, ifTrue_ok z4, ifTrue_ok z5, ifTrue_ok z6, ifFalse_ok z7⟩
  have A0 : FunAt K mg "cleaned" scleaned Pcleaned := funAt_of X G c 0 0 rfl rfl _ fun _ _ _ _ _ _ us hl => match us, hl with | [_], _ => rfl
  have A1 : FunAt K mg "product_of" sproduct_of Pproduct_of := funAt_of X G c 1 1 rfl rfl _ fun _ _ _ _ _ _ us hl => match us, hl with | [_, _], _ => rfl
  have A2 : FunAt K mg "spread" sspread Pspread := funAt_of X G c 2 2 rfl rfl _ fun _ _ _ _ _ _ us hl => match us, hl with | [_], _ => rfl
  have A3 : FunAt K mg "content" scontent Pcontent := funAt_of X G c 3 3 rfl rfl _ fun _ _ _ _ _ _ us hl => match us, hl with | [_], _ => rfl
  have A4 : FunAt K mg "normal" snormal Pnormal := funAt_of X G c 4 4 rfl rfl _ fun _ _ _ _ _ _ us hl => match us, hl with | [_], _ => rfl
  have A5 : FunAt K mg "polynomial" spolynomial Ppolynomial := funAt_of X G c 5 5 rfl rfl _ fun _ _ _ _ _ _ us hl => match us, hl with | [_], _ => rfl
  have A6 : FunAt K mg "normal_polynomial" snormal_polynomial Pnormal_polynomial := funAt_of X G c 6 6 rfl rfl _ fun _ _ _ _ _ _ us hl => match us, hl with | [_], _ => rfl
  have A7 : FunAt K mg "span" sspan Pspan := funAt_of X G c 7 7 rfl rfl _ fun _ _ _ _ _ _ us hl => match us, hl with | [_], _ => rfl
  have A8 : FunAt K mg "poly_plus" spoly_plus Ppoly_plus := funAt_of X G c 8 8 rfl rfl _ fun _ _ _ _ _ _ us hl => match us, hl with | [_, _], _ => rfl
  have A9 : FunAt K mg "poly_times" spoly_times Ppoly_times := funAt_of X G c 9 9 rfl rfl _ fun _ _ _ _ _ _ us hl => match us, hl with | [_, _], _ => rfl
  have A10 : FunAt K mg "_law_whole" s_law_whole P_law_whole := funAt_of X G c 10 10 rfl rfl _ fun _ _ _ _ _ _ us hl => match us, hl with | [_], _ => rfl
  have A11 : FunAt K mg "_law_cell" s_law_cell P_law_cell := funAt_of X G c 11 11 rfl rfl _ fun _ _ _ _ _ _ us hl => match us, hl with | [_, _], _ => rfl
  have A12 : FunAt K mg "_law_digits" s_law_digits P_law_digits := funAt_of X G c 12 12 rfl rfl _ fun _ _ _ _ _ _ us hl => match us, hl with | [_, _], _ => rfl
  have A13 : FunAt K mg "_law_gcd" s_law_gcd P_law_gcd := funAt_of X G c 13 13 rfl rfl _ fun _ _ _ _ _ _ us hl => match us, hl with | [_, _], _ => rfl
  have A14 : FunAt K mg "_law_poly" s_law_poly P_law_poly := funAt_of X G c 14 14 rfl rfl _ fun _ _ _ _ _ _ us hl => match us, hl with | [_], _ => rfl
  have A15 : FunAt K mg "_law_add" s_law_add P_law_add := funAt_of X G c 15 15 rfl rfl _ fun _ _ _ _ _ _ us hl => match us, hl with | [_, _, _], _ => rfl
  have A16 : FunAt K mg "_law_mul" s_law_mul P_law_mul := funAt_of X G c 16 16 rfl rfl _ fun _ _ _ _ _ _ us hl => match us, hl with | [_, _], _ => rfl
  have A17 : FunAt K mg "_law_pairs" s_law_pairs P_law_pairs := funAt_of X G c 17 17 rfl rfl _ fun _ _ _ _ _ _ us hl => match us, hl with | [_], _ => rfl
  have A18 : FunAt K mg "_law_normal" s_law_normal P_law_normal := funAt_of X G c 18 18 rfl rfl _ fun _ _ _ _ _ _ us hl => match us, hl with | [_], _ => rfl
  have A19 : FunAt K mg "_law_is_poly" s_law_is_poly P_law_is_poly := funAt_of X G c 19 19 rfl rfl _ fun _ _ _ _ _ _ us hl => match us, hl with | [_], _ => rfl
  have A20 : FunAt K mg "_law_coefficient" s_law_coefficient P_law_coefficient := funAt_of X G c 20 20 rfl rfl _ fun _ _ _ _ _ _ us hl => match us, hl with | [_, _, _], _ => rfl
  have A21 : FunAt K mg "_law_drawn" s_law_drawn P_law_drawn := funAt_of X G c 21 21 rfl rfl _ fun _ _ _ _ _ _ us hl => match us, hl with | [_], _ => rfl
  have A22 : FunAt K mg "_law_passed" s_law_passed P_law_passed := funAt_of X G c 22 22 rfl rfl _ fun _ _ _ _ _ _ us hl => match us, hl with | [_, _], _ => rfl
  have A23 : FunAt K mg "_law_other_pairs" s_law_other_pairs P_law_other_pairs := funAt_of X G c 23 23 rfl rfl _ fun _ _ _ _ _ _ us hl => match us, hl with | [_, _], _ => rfl
  have A24 : FunAt K mg "_law_another" s_law_another P_law_another := funAt_of X G c 24 24 rfl rfl _ fun _ _ _ _ _ _ us hl => match us, hl with | [_], _ => rfl
  have A25 : FunAt K mg "_law_spanless" s_law_spanless P_law_spanless := funAt_of X G c 25 25 rfl rfl _ fun _ _ _ _ _ _ us hl => match us, hl with | [_], _ => rfl
  have A26 : FunAt K mg "_law_is" s_law_is P_law_is := funAt_of X G c 26 26 rfl rfl _ fun _ _ _ _ _ _ us hl => match us, hl with | [_, _], _ => rfl
  have A27 : FunAt K mg "_law_alone" s_law_alone P_law_alone := funAt_of X G c 27 27 rfl rfl _ fun _ _ _ _ _ _ us hl => match us, hl with | [_, _], _ => rfl
  have A28 : FunAt K mg "_law_right" s_law_right P_law_right := funAt_of X G c 28 28 rfl rfl _ fun _ _ _ _ _ _ us hl => match us, hl with | [_, _, _, _], _ => rfl
  have A29 : FunAt K mg "_law_next" s_law_next P_law_next := funAt_of X G c 29 29 rfl rfl _ fun _ _ _ _ _ _ us hl => match us, hl with | [_, _, _, _, _], _ => rfl
  obtain ⟨fd, F⟩ := c.def_ 30 (d := defD "law" slaw) rfl
  have e := hfa.symm.trans (He.glo_ok X G (c.fact 30 (f := .glo "law") rfl))
  cases e
  refine ⟨fd, fun s v => FunD.bindsA (ps := ["script"]) F (fun _ _ _ _ _ _ us hl => match us, hl with | [_], _ => rfl) s [v] rfl, fun base _ _ => ?_⟩
  have ccleaned := calcleaned (P := P) (w := w) (K := K) (mg := mg) (base := base) A0 B pr_cleaned
  have cspread := calspread (P := P) (w := w) (K := K) (mg := mg) (base := base) A2 B pr_spread
  have ccontent := calcontent (P := P) (w := w) (K := K) (mg := mg) (base := base) A3 B pr_content
  have c_law_whole := cal_law_whole (P := P) (w := w) (K := K) (mg := mg) (base := base) A10 B pr_law_whole
  have c_law_cell := cal_law_cell (P := P) (w := w) (K := K) (mg := mg) (base := base) A11 B pr_law_cell
  have c_law_digits := cal_law_digits (P := P) (w := w) (K := K) (mg := mg) (base := base) A12 B pr_law_digits
  have c_law_gcd := cal_law_gcd (P := P) (w := w) (K := K) (mg := mg) (base := base) A13 B pr_law_gcd
  have c_law_poly := cal_law_poly (P := P) (w := w) (K := K) (mg := mg) (base := base) A14 B pr_law_poly
  have c_law_pairs := cal_law_pairs (P := P) (w := w) (K := K) (mg := mg) (base := base) A17 B pr_law_pairs
  have c_law_coefficient := cal_law_coefficient (P := P) (w := w) (K := K) (mg := mg) (base := base) A20 B pr_law_coefficient
  have c_law_passed := cal_law_passed (P := P) (w := w) (K := K) (mg := mg) (base := base) A22 B pr_law_passed
  have c_law_other_pairs := cal_law_other_pairs (P := P) (w := w) (K := K) (mg := mg) (base := base) A23 B pr_law_other_pairs
  have c_law_another := cal_law_another (P := P) (w := w) (K := K) (mg := mg) (base := base) A24 B (pr_law_another k)
  have cproduct_of := calproduct_of (P := P) (w := w) (K := K) (mg := mg) (base := base) A1 B ccleaned pr_product_of
  have cnormal := calnormal (P := P) (w := w) (K := K) (mg := mg) (base := base) A4 B ccontent pr_normal
  have cpolynomial := calpolynomial (P := P) (w := w) (K := K) (mg := mg) (base := base) A5 B ccleaned pr_polynomial
  have cspan := calspan (P := P) (w := w) (K := K) (mg := mg) (base := base) A7 B ccleaned cspread pr_span
  have cpoly_plus := calpoly_plus (P := P) (w := w) (K := K) (mg := mg) (base := base) A8 B ccleaned pr_poly_plus
  have c_law_add := cal_law_add (P := P) (w := w) (K := K) (mg := mg) (base := base) A15 B c_law_poly pr_law_add
  have c_law_mul := cal_law_mul (P := P) (w := w) (K := K) (mg := mg) (base := base) A16 B c_law_poly pr_law_mul
  have c_law_normal := cal_law_normal (P := P) (w := w) (K := K) (mg := mg) (base := base) A18 B c_law_gcd pr_law_normal
  have c_law_is_poly := cal_law_is_poly (P := P) (w := w) (K := K) (mg := mg) (base := base) A19 B c_law_whole pr_law_is_poly
  have c_law_drawn := cal_law_drawn (P := P) (w := w) (K := K) (mg := mg) (base := base) A21 B c_law_coefficient pr_law_drawn
  have cnormal_polynomial := calnormal_polynomial (P := P) (w := w) (K := K) (mg := mg) (base := base) A6 B cnormal ccleaned pr_normal_polynomial
  have cpoly_times := calpoly_times (P := P) (w := w) (K := K) (mg := mg) (base := base) A9 B cproduct_of pr_poly_times
  have c_law_spanless := cal_law_spanless (P := P) (w := w) (K := K) (mg := mg) (base := base) A25 B cspan c_law_another (pr_law_spanless k)
  have c_law_is := cal_law_is (P := P) (w := w) (K := K) (mg := mg) (base := base) A26 B c_law_is_poly c_law_pairs pr_law_is
  have c_law_alone := cal_law_alone (P := P) (w := w) (K := K) (mg := mg) (base := base) A27 B c_law_is cpolynomial c_law_normal cnormal_polynomial c_law_spanless cspan c_law_whole pr_law_alone
  have c_law_right := cal_law_right (P := P) (w := w) (K := K) (mg := mg) (base := base) A28 B c_law_is c_law_add cpoly_plus c_law_mul cpoly_times pr_law_right
  have c_law_next := cal_law_next (P := P) (w := w) (K := K) (mg := mg) (base := base) A29 B c_law_mul cpoly_times c_law_add cpoly_plus pr_law_next
  exact fnlaw (fun_ofD (st := slaw) F) B c_law_digits c_law_cell c_law_drawn c_law_poly c_law_passed c_law_other_pairs c_law_alone c_law_right c_law_is c_law_add cpoly_plus c_law_next pr_law
end Go
open PySem PySem.W PySem.Calls PyProof.Rows
theorem PySem.Challenge.cw_joinpast_k01_polynomial_forms_holds : PySem.Challenge.rw_joinpast_k01_polynomial_forms.Holds := by
  w_on; o_law
  refine HandSHeadRun.head_imp (r := OpenLaw.row PySem.Challenge.rw_joinpast_k01_polynomial_forms) (q := view (OpenLaw.row PySem.Challenge.rw_joinpast_k01_polynomial_forms).prog [0, 66]) (H := Go.hkL) (ob := Go.obL) (M := 20000) (loose := Go.looseL) (d := HandSHeadRun.topDef (OpenLaw.row PySem.Challenge.rw_joinpast_k01_polynomial_forms).prog 66) (kwd := []) Go.obL_eq Go.runL
    (by kernel_rfl) (by kernel_rfl) (by kernel_rfl) (by rfl) (by first | assumption | decide +kernel) (by decide +kernel) ⟨rfl, rfl, rfl, rfl, rfl, by decide +kernel⟩ ?hw ?hc
  case hw => w_witness2
  case hc =>
    refine DL.walk_ofW (l := PySem.Challenge.rw_joinpast_k01_polynomial_forms) (n := 63) (k := 5) (x := "script") (CX := fun w => L2N.CX (PySem.Challenge.rw_joinpast_k01_polynomial_forms).prog w) rfl (by decide) (by kernel_rfl) ⟨rfl, by decide, by decide⟩ ?F ?C
    case C =>
      intro w H s e s' z
      obtain ⟨_, _, _, _, _, _, _, _, _, _, _, _, hE⟩ := z
      exact hE
    case F =>
      intro w mg fa h Y G hmg0
      obtain ⟨K, KX, c, cx⟩ := Y
      have hmg : mg ("law" : PySem.Str) = some (.ref fa) := by
        have e : (HandSHeadRun.topDef (OpenLaw.row PySem.Challenge.rw_joinpast_k01_polynomial_forms).prog 66).name = ("law" : PySem.Str) := by kernel_rfl
        rw [← e]
        exact hmg0
      obtain ⟨fd, hb, hF⟩ := Go.factsL (P := (PySem.Challenge.rw_joinpast_k01_polynomial_forms).prog) (w := w) KX G hmg c cx
      exact ⟨K, fd, _, KX, hb, fun H a ns hl hS => ⟨H, [.scr ns], .ok (.bl true), DL.Ex.refl H, .cons (.scr hS) .nil, rfl, ⟨ns, by omega, rfl, rfl⟩, fun v F' H' _ r => by cases r; rfl⟩, hF⟩
