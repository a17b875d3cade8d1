import PyProof.Rows.All
import Wide.All
import OpenK.AllK
import Wide.FinOn
import HandS.ForMost
import HandS.Walk
import HandS.AnyAll
import HandS.TupAny
import HandS.Style
import HandS.Exc
import HandS.ExcOwn
import HandS.TryOnly
import HandS.WordsExc
import HandS.IsInst
import HandS.Wide
import HandS.GenOver
import PyProof.GenCompD
import HandS.More
import HandS.Text
import HandS.TupLe
import HandS.Dict
import PyProof.TypeEq
import HandS.EndTab
import PySem.Challenge.RW_pilerun_k01_rules_and_spots
set_option Elab.async false
set_option linter.all false
set_option maxRecDepth 100000
set_option maxHeartbeats 2000000
/-! DL1: data without a heap (Dt), what a value is in a heap (Rp), the state of a body (Sta), expressions by what data they give (PD). -/
namespace DL
open PySem PySem.Spec L2

/-! ### data -/
inductive Dt where
  | non | bl (b : Bool) | int (i : Int) | str (s : List Nat) | ty (n : String)
  | tup (ds : List Dt) | lst (ds : List Dt)
  | dk (ks : List Key) (ds : List Dt)
  | dt (ks : List (List Key)) (ds : List Dt)
  | scr (ns : List Int)
  | ins (C : Addr) (ns : List Str) (ds : List Dt)
  | opq (p : Hp → V → Prop)

/-- what stands still; what may be locked while it is walked -/
def fx : HO → Bool
  | .lst _ => true | .tup _ => true | .ins _ _ _ => true | .own _ => true | .frz _ (.lst _) => true | _ => false
def dct : HO → Bool
  | .dK _ => true | .dT _ => true | _ => false
/-- F' may be read wherever F may -/
structure Le (F F' : Hp) : Prop where
  f : ∀ a u, F a = some u → fx u = true → F' a = some u
  r : ∀ a u, dct u = true → Rd F a u → Rd F' a u
theorem Le.refl (F : Hp) : Le F F := ⟨fun _ _ h _ => h, fun _ _ _ h => h⟩
theorem Le.trans {F G H : Hp} (a : Le F G) (b : Le G H) : Le F H := ⟨fun x u h i => b.f x u (a.f x u h i) i, fun x u i h => b.r x u i (a.r x u i h)⟩
theorem Le.of_same {F F' : Hp} (h : ∀ a o, F a = some o → F' a = some o) : Le F F' := ⟨fun a u e _ => h a u e, fun a u _ r => by
  rcases r with r | ⟨o, r⟩
  · exact .inl (h a _ r)
  · exact .inr ⟨o, h a _ r⟩⟩
theorem Le.scr {K : PySem.W.Frag} {F F' : Hp} (e : Le F F') {a : Addr} {xs : List V} (h : SqL K F a xs) : SqL K F' a xs := by
  rcases h with (h | ⟨o, h⟩) | h
  · exact .inl (.inl (e.f _ _ h rfl))
  · exact .inl (.inr ⟨o, e.f _ _ h rfl⟩)
  · exact .inr h

/-- the value v is the data d, by what F tells -/
inductive Rp (K : PySem.W.Frag) (F : Hp) : V → Dt → Prop where
  | non : Rp K F .non .non
  | bl (b : Bool) : Rp K F (.bl b) (.bl b)
  | int (i : Int) : Rp K F (.int i) (.int i)
  | str (s : List Nat) : Rp K F (.str ⟨s.toArray⟩) (.str s)
  | ty (n : String) : Rp K F (.ty n) (.ty n)
  | tup {a : Addr} {xs : List V} {ds : List Dt} (h : F a = some (.tup xs)) (hl : xs.length = ds.length) (hi : ∀ (i : Nat) (x : V) (d : Dt), xs[i]? = some x → ds[i]? = some d → Rp K F x d) : Rp K F (.ref a) (.tup ds)
  | lst {a : Addr} {xs : List V} {ds : List Dt} (h : F a = some (.lst xs)) (hl : xs.length = ds.length) (hi : ∀ (i : Nat) (x : V) (d : Dt), xs[i]? = some x → ds[i]? = some d → Rp K F x d) : Rp K F (.ref a) (.lst ds)
  | dk {a : Addr} {kvs : List (Key × V)} {ks : List Key} {ds : List Dt} (h : Rd F a (.dK kvs)) (hk : kvs.map (·.1) = ks) (hl : kvs.length = ds.length)
      (hi : ∀ (i : Nat) (x : Key × V) (d : Dt), kvs[i]? = some x → ds[i]? = some d → Rp K F x.2 d) : Rp K F (.ref a) (.dk ks ds)
  | dt {a : Addr} {kvs : List (List Key × V)} {ks : List (List Key)} {ds : List Dt} (h : Rd F a (.dT kvs)) (hk : kvs.map (·.1) = ks) (hl : kvs.length = ds.length)
      (hi : ∀ (i : Nat) (x : List Key × V) (d : Dt), kvs[i]? = some x → ds[i]? = some d → Rp K F x.2 d) : Rp K F (.ref a) (.dt ks ds)
  | scr {a : Addr} {ns : List Int} (h : SqL K F a (ns.map V.int)) : Rp K F (.ref a) (.scr ns)
  | ins {a C dx : Addr} {kvs : List (Str × V)} {ns : List Str} {ds : List Dt} (h : F a = some (.ins C dx kvs)) (hk : kvs.map (·.1) = ns) (hl : kvs.length = ds.length)
      (hi : ∀ (i : Nat) (x : Str × V) (d : Dt), kvs[i]? = some x → ds[i]? = some d → Rp K F x.2 d) : Rp K F (.ref a) (.ins C ns ds)
  | opq {v : V} {p : Hp → V → Prop} (h : ∀ F', Le F F' → p F' v) : Rp K F v (.opq p)
theorem Rp.mono {K : PySem.W.Frag} {F F' : Hp} (e : Le F F') {v : V} {d : Dt} (h : Rp K F v d) : Rp K F' v d := by
  induction h with
  | non => exact .non
  | bl b => exact .bl b
  | int i => exact .int i
  | str s => exact .str s
  | ty n => exact .ty n
  | tup h hl _ ih => exact .tup (e.f _ _ h rfl) hl ih
  | lst h hl _ ih => exact .lst (e.f _ _ h rfl) hl ih
  | dk h hk hl _ ih => exact .dk (e.r _ _ rfl h) hk hl ih
  | dt h hk hl _ ih => exact .dt (e.r _ _ rfl h) hk hl ih
  | scr h => exact .scr (e.scr h)
  | ins h hk hl _ ih => exact .ins (e.f _ _ h rfl) hk hl ih
  | opq h => exact .opq fun F'' l => h F'' (e.trans l)
/-- values, data, one by one -/
structure RpA (K : PySem.W.Frag) (F : Hp) (xs : List V) (ds : List Dt) : Prop where
  len : xs.length = ds.length
  at_ : ∀ (i : Nat) (x : V) (d : Dt), xs[i]? = some x → ds[i]? = some d → Rp K F x d
section
variable {K : PySem.W.Frag} {F F' : Hp} {v : V} {d : Dt} {xs ys : List V} {ds es : List Dt}
theorem RpA.mono (e : Le F F') (h : RpA K F xs ds) : RpA K F' xs ds := ⟨h.len, fun i x d a b => (h.at_ i x d a b).mono e⟩
theorem RpA.nil : RpA K F [] [] := ⟨rfl, fun i x d a => by simp at a⟩
theorem RpA.cons (h : Rp K F v d) (t : RpA K F xs ds) : RpA K F (v :: xs) (d :: ds) := by
  refine ⟨by rw [List.length_cons, List.length_cons, t.len], fun i x e a b => ?_⟩
  cases i with
  | zero =>
    simp at a b
    subst a; subst b
    exact h
  | succ i => exact t.at_ i x e (by simpa using a) (by simpa using b)
theorem RpA.append (h : RpA K F xs ds) (t : RpA K F ys es) : RpA K F (xs ++ ys) (ds ++ es) := by
  refine ⟨by rw [List.length_append, List.length_append, h.len, t.len], fun i x e a b => ?_⟩
  by_cases hi : i < xs.length
  · rw [List.getElem?_append_left hi] at a
    rw [List.getElem?_append_left (by rw [← h.len]; exact hi)] at b
    exact h.at_ i x e a b
  · rw [List.getElem?_append_right (by omega)] at a
    rw [List.getElem?_append_right (by rw [← h.len]; omega), ← h.len] at b
    exact t.at_ _ x e a b
theorem RpA.snoc (h : RpA K F xs ds) (t : Rp K F v d) : RpA K F (xs ++ [v]) (ds ++ [d]) := h.append (.cons t .nil)
theorem RpA.take (h : RpA K F xs ds) (n : Nat) : RpA K F (xs.take n) (ds.take n) := by
  refine ⟨by rw [List.length_take, List.length_take, h.len], fun i x e a b => ?_⟩
  rw [List.getElem?_take] at a b
  split at a
  · rename_i hi
    rw [if_pos hi] at b
    exact h.at_ i x e a b
  · cases a
theorem RpA.drop (h : RpA K F xs ds) (n : Nat) : RpA K F (xs.drop n) (ds.drop n) := by
  refine ⟨by rw [List.length_drop, List.length_drop, h.len], fun i x e a b => ?_⟩
  rw [List.getElem?_drop] at a b
  exact h.at_ _ x e a b
theorem RpA.reverse (h : RpA K F xs ds) : RpA K F xs.reverse ds.reverse := by
  refine ⟨by rw [List.length_reverse, List.length_reverse, h.len], fun i x e a b => ?_⟩
  have hi : i < xs.length := by
    have := (List.getElem?_eq_some_iff.mp a).1
    rwa [List.length_reverse] at this
  rw [List.getElem?_reverse hi] at a
  rw [List.getElem?_reverse (by rw [← h.len]; exact hi), ← h.len] at b
  exact h.at_ _ x e a b
theorem RpA.get (h : RpA K F xs ds) {i : Nat} {d : Dt} (e : ds[i]? = some d) : ∃ x, xs[i]? = some x ∧ Rp K F x d := by
  have hi : i < xs.length := by rw [h.len]; exact (List.getElem?_eq_some_iff.mp e).1
  exact ⟨xs[i], List.getElem?_eq_getElem hi, h.at_ i _ d (List.getElem?_eq_getElem hi) e⟩
theorem RpA.got (h : RpA K F xs ds) {i : Nat} {x : V} (e : xs[i]? = some x) : ∃ d, ds[i]? = some d ∧ Rp K F x d := by
  have hi : i < ds.length := by rw [← h.len]; exact (List.getElem?_eq_some_iff.mp e).1
  exact ⟨ds[i], List.getElem?_eq_getElem hi, h.at_ i x _ e (List.getElem?_eq_getElem hi)⟩
theorem RpA.uncons {xs : List V} (h : RpA K F xs (d :: ds)) : ∃ v r, xs = v :: r ∧ Rp K F v d ∧ RpA K F r ds := by
  cases xs with
  | nil => have := h.len; simp at this
  | cons v r => exact ⟨v, r, rfl, h.at_ 0 v d rfl rfl, by have := h.len; simpa using this, fun i x e a b => h.at_ (i + 1) x e (by simpa using a) (by simpa using b)⟩
theorem RpA.unnil {xs : List V} (h : RpA K F xs []) : xs = [] := by
  have := h.len
  exact List.eq_nil_of_length_eq_zero this
theorem RpA.ints : ∀ (ns : List Int), RpA K F (ns.map V.int) (ns.map Dt.int)
  | [] => .nil
  | n :: r => .cons (.int n) (RpA.ints r)
/-- what the data's form tells of the value -/
theorem Rp.int_of {i : Int} (h : Rp K F v (.int i)) : v = .int i := by cases h; rfl
theorem Rp.bl_of {b : Bool} (h : Rp K F v (.bl b)) : v = .bl b := by cases h; rfl
theorem Rp.str_of {s : List Nat} (h : Rp K F v (.str s)) : v = .str ⟨s.toArray⟩ := by cases h; rfl
theorem Rp.ty_of {n : String} (h : Rp K F v (.ty n)) : v = .ty n := by cases h; rfl
theorem Rp.non_of (h : Rp K F v .non) : v = .non := by cases h; rfl
theorem Rp.tup_of (h : Rp K F v (.tup ds)) : ∃ a xs, v = .ref a ∧ F a = some (.tup xs) ∧ RpA K F xs ds := by
  cases h with
  | tup h hl hi => exact ⟨_, _, rfl, h, hl, hi⟩
theorem Rp.lst_of (h : Rp K F v (.lst ds)) : ∃ a xs, v = .ref a ∧ F a = some (.lst xs) ∧ RpA K F xs ds := by
  cases h with
  | lst h hl hi => exact ⟨_, _, rfl, h, hl, hi⟩
end

/-! ### what is one's own is masked -/
def mask (H : Hp) (O : List Addr) : Hp := fun a => if a ∈ O then none else H a
theorem mask_in {H : Hp} {O : List Addr} {a : Addr} (h : a ∈ O) : mask H O a = none := if_pos h
theorem mask_out {H : Hp} {O : List Addr} {a : Addr} (h : a ∉ O) : mask H O a = H a := if_neg h
theorem mask_some {H : Hp} {O : List Addr} {a : Addr} {o : HO} (e : mask H O a = some o) : H a = some o ∧ a ∉ O := by
  by_cases h : a ∈ O
  · rw [mask_in h] at e; cases e
  · rw [mask_out h] at e; exact ⟨e, h⟩
theorem mask_le (H : Hp) (O : List Addr) : Le (mask H O) H := Le.of_same fun a o e => by
  by_cases h : a ∈ O
  · rw [mask_in h] at e; cases e
  · rwa [mask_out h] at e
theorem mask_sub {H : Hp} {O O' : List Addr} (h : ∀ a ∈ O, a ∈ O') : Le (mask H O') (mask H O) := Le.of_same fun a o e => by
  by_cases h1 : a ∈ O'
  · rw [mask_in h1] at e; cases e
  · rw [mask_out fun z => h1 (h a z)]
    rwa [mask_out h1] at e
theorem mask_upd {H : Hp} {O : List Addr} {a : Addr} {o : HO} (h : a ∈ O) : mask (upd H a o) O = mask H O := by
  funext b
  by_cases hb : b ∈ O
  · rw [mask_in hb, mask_in hb]
  · rw [mask_out hb, mask_out hb, upd_ne (fun e => hb (by rw [e]; exact h))]
theorem mask_new {H : Hp} {O : List Addr} {a : Addr} {o : HO} (h : H a = none) : mask (upd H a o) (a :: O) = mask H O := by
  funext b
  by_cases hb : b = a
  · subst hb
    rw [mask_in List.mem_cons_self]
    by_cases h2 : b ∈ O
    · rw [mask_in h2]
    · rw [mask_out h2, h]
  · by_cases h2 : b ∈ O
    · rw [mask_in h2, mask_in (List.mem_cons_of_mem _ h2)]
    · rw [mask_out h2, mask_out (fun z => (List.mem_cons.mp z).elim hb h2), upd_ne hb]

/-! ### the state of a body -/
/-- a thing of one's own: a list, a dict -/
inductive Ow where
  | lst (ds : List Dt) | dk (kds : List (Key × Dt)) | dt (kds : List (List Key × Dt)) | ins (C : Addr) (fs : List (Str × Dt))
inductive En where
  | imm (d : Dt) | own (l : Addr) (br : Bool) (o : Ow)
abbrev DEnv := List (Option En)
/-- pairs -/
structure KRp {κ : Type} (K : PySem.W.Frag) (F : Hp) (kvs : List (κ × V)) (kds : List (κ × Dt)) : Prop where
  keys : kvs.map (·.1) = kds.map (·.1)
  vals : RpA K F (kvs.map (·.2)) (kds.map (·.2))
def OwAt (K : PySem.W.Frag) (F H : Hp) (l : Addr) : Ow → Prop
  | .lst ds => ∃ vs, H l = some (.lst vs) ∧ RpA K F vs ds
  | .dk kds => ∃ kvs, H l = some (.dK kvs) ∧ KRp K F kvs kds
  | .dt kds => ∃ kvs, H l = some (.dT kvs) ∧ KRp K F kvs kds
  | .ins C fs => ∃ dx kvs, H l = some (.ins C dx kvs) ∧ KRp K F kvs fs
theorem KRp.mono {κ : Type} {K : PySem.W.Frag} {F F' : Hp} {kvs : List (κ × V)} {kds : List (κ × Dt)} (e : Le F F') (h : KRp K F kvs kds) : KRp K F' kvs kds := ⟨h.keys, h.vals.mono e⟩
theorem OwAt.mono {K : PySem.W.Frag} {F F' H H' : Hp} {l : Addr} {o : Ow} (e : Le F F') (hl : ∀ u, H l = some u → H' l = some u) (h : OwAt K F H l o) : OwAt K F' H' l o := by
  cases o with
  | lst ds => obtain ⟨vs, a, b⟩ := h; exact ⟨vs, hl _ a, b.mono e⟩
  | dk ds => obtain ⟨vs, a, b⟩ := h; exact ⟨vs, hl _ a, b.mono e⟩
  | dt ds => obtain ⟨vs, a, b⟩ := h; exact ⟨vs, hl _ a, b.mono e⟩
  | ins C fs => obtain ⟨dx, vs, a, b⟩ := h; exact ⟨dx, vs, hl _ a, b.mono e⟩
theorem OwAt.there {K : PySem.W.Frag} {F H : Hp} {l : Addr} {o : Ow} (h : OwAt K F H l o) : ∃ u, H l = some u ∧ Mut (some u) := by
  cases o with
  | lst ds => obtain ⟨vs, a, b⟩ := h; exact ⟨_, a, trivial⟩
  | dk ds => obtain ⟨vs, a, b⟩ := h; exact ⟨_, a, trivial⟩
  | dt ds => obtain ⟨vs, a, b⟩ := h; exact ⟨_, a, trivial⟩
  | ins C fs => obtain ⟨dx, vs, a, b⟩ := h; exact ⟨_, a, trivial⟩
def SlotOk (K : PySem.W.Frag) (O : List Addr) (H : Hp) (v : V) : En → Prop
  | .imm d => Rp K (mask H O) v d
  | .own l _ o => v = .ref l ∧ l ∈ O ∧ OwAt K (mask H O) H l o
/-- a def's own frame: what was one's own ahead of it, what it may change (handed in), the heap at its entry -/
structure Fm where
  O0 : List Addr
  B : List Addr
  H0 : Hp
  pins : List (V × Dt)
/-- a lock: a dict that is walked -/
abbrev Lk := List (Addr × Obj × HO)
/-- the growth that an expression brings -/
def Gr (T : List Addr) (H H' : Hp) : Prop := ∀ a o, a ∉ T → H a = some o → H' a = some o
theorem Gr.refl {T : List Addr} {H : Hp} : Gr T H H := fun _ _ _ h => h
theorem Gr.trans {T : List Addr} {H H1 H2 : Hp} (a : Gr T H H1) (b : Gr T H1 H2) : Gr T H H2 := fun x o n h => b x o n (a x o n h)
theorem Gr.new {T : List Addr} {H : Hp} {p : Addr} {o : HO} (h : H p = none) : Gr T H (upd H p o) := fun a u _ e => by
  rw [upd_ne (ne_of_none e h)]; exact e
theorem Gr.back {T : List Addr} {H H' : Hp} {p : Addr} (e : Gr T H H') (hT : p ∉ T) (h : H' p = none) : H p = none := by
  cases h1 : H p with
  | none => rfl
  | some o => rw [e p o hT h1] at h; cases h
theorem Gr.mask {T O : List Addr} {H H' : Hp} (h : Gr T H H') (t : ∀ P ∈ T, P ∈ O) : Le (mask H O) (mask H' O) := Le.of_same fun a o e => by
  by_cases ha : a ∈ O
  · rw [mask_in ha] at e; cases e
  · rw [mask_out ha] at e ⊢
    exact h a o (fun z => ha (t a z)) e

/-- there, and no tuple -/
def Held (H : Hp) (a : Addr) : Prop := H a ≠ none ∧ ∀ xs, H a ≠ some (.tup xs)
theorem Held.keep {H H' : Hp} {a : Addr} (h : Held H a) (k : ∀ u, H a = some u → H' a = some u) : Held H' a := by
  obtain ⟨h1, h2⟩ := h
  cases q : H a with
  | none => exact absurd q h1
  | some u =>
    have e := k u q
    refine ⟨(by rw [e]; exact (fun z => nomatch z)), fun xs z => h2 xs ?_⟩
    rw [e] at z
    rw [q, z]
theorem Held.of {H : Hp} {a : Addr} {u : HO} (e : H a = some u) (n : ∀ xs, u ≠ .tup xs) : Held H a := ⟨(by rw [e]; exact (fun z => nomatch z)), fun xs z => n xs (by rw [e] at z; cases z; rfl)⟩
theorem OwAt.held {K : PySem.W.Frag} {F H : Hp} {l : Addr} {o : Ow} (h : OwAt K F H l o) : Held H l := by
  cases o with
  | lst ds => obtain ⟨vs, a, b⟩ := h; exact .of a fun _ z => nomatch z
  | dk ds => obtain ⟨vs, a, b⟩ := h; exact .of a fun _ z => nomatch z
  | dt ds => obtain ⟨vs, a, b⟩ := h; exact .of a fun _ z => nomatch z
  | ins C fs => obtain ⟨dx, vs, a, b⟩ := h; exact .of a fun _ z => nomatch z
structure Sta (K : PySem.W.Frag) (T : List Addr) (fm : Fm) (L : Lk) (O : List Addr) (σ : St) (H : Hp) (Δ : DEnv) : Prop where
  tO : ∀ P ∈ T, P ∈ O
  tab : ∀ P ∈ T, GxR.TabG H P
  dom : ∀ l ∈ O, Held H l
  o0 : ∀ l ∈ fm.O0, l ∈ O
  b0 : ∀ l ∈ fm.B, l ∈ fm.O0
  d0 : ∀ l ∈ fm.O0, fm.H0 l ≠ none
  pin : ∀ p ∈ fm.pins, Rp K (mask H O) p.1 p.2
  keep : ∀ a o, fm.H0 a = some o → a ∉ T → a ∉ fm.B → (∀ p ∈ L, p.1 ≠ a) → H a = some o
  lock : ∀ p ∈ L, H p.1 = some (.frz p.2.1 p.2.2)
  len : σ.length = Δ.length
  slot : ∀ (i : Nat) (e : En), Δ[i]? = some (some e) → ∃ v, σ[i]? = some (some v) ∧ SlotOk K O H v e
  own : ∀ (i : Nat) (l : Addr) (br : Bool) (o : Ow), Δ[i]? = some (some (.own l br o)) → l ∉ T ∧ (∀ p ∈ L, p.1 ≠ l) ∧ (if br then l ∈ fm.B else fm.H0 l = none)
  sep : ∀ (i j : Nat) (l : Addr) (br br' : Bool) (o o' : Ow), Δ[i]? = some (some (.own l br o)) → Δ[j]? = some (some (.own l br' o')) → i = j

section
variable {K : PySem.W.Frag} {T : List Addr} {fm : Fm} {L : Lk} {O : List Addr} {σ : St} {H H' : Hp} {Δ : DEnv} {v : V} {e : En} {d : Dt}
theorem SlotOk.gr (g : Gr T H H') (tO : ∀ P ∈ T, P ∈ O) (hown : ∀ l br o, e = .own l br o → l ∉ T) (h : SlotOk K O H v e) : SlotOk K O H' v e := by
  cases e with
  | imm d => exact Rp.mono (g.mask tO) h
  | own l br o =>
    obtain ⟨h1, h2, h3⟩ := h
    exact ⟨h1, h2, h3.mono (g.mask tO) fun u hu => g l u (hown l br o rfl) hu⟩
theorem Sta.gr (s : Sta K T fm L O σ H Δ) (g : Gr T H H') (ht : ∀ P ∈ T, GxR.TabG H' P) : Sta K T fm L O σ H' Δ where
  tO := s.tO
  tab := ht
  dom := fun l hl => by
    by_cases hT : l ∈ T
    · obtain ⟨ps, e, _⟩ := ht l hT
      exact .of e fun _ z => nomatch z
    · exact (s.dom l hl).keep fun o q => g l o hT q
  o0 := s.o0
  b0 := s.b0
  d0 := s.d0
  pin := fun p hp => (s.pin p hp).mono (g.mask s.tO)
  keep := fun a o e h1 h2 h3 => g a o h1 (s.keep a o e h1 h2 h3)
  lock := fun p hp => by
    have h := s.lock p hp
    refine g _ _ (fun z => ?_) h
    obtain ⟨ps, e, _⟩ := s.tab _ z
    rw [h] at e; cases e
  len := s.len
  slot := fun i e h => by
    obtain ⟨v, h1, h2⟩ := s.slot i e h
    refine ⟨v, h1, h2.gr g s.tO fun l br o z => ?_⟩
    subst z
    exact (s.own i l br o h).1
  own := s.own
  sep := s.sep
/-- a new thing that nobody owns -/
theorem Sta.new {p : Addr} {o : HO} (s : Sta K T fm L O σ H Δ) (h : H p = none) : Sta K T fm L O σ (upd H p o) Δ :=
  s.gr (Gr.new h) fun P hP => by
    obtain ⟨ps, e, q⟩ := s.tab P hP
    exact ⟨ps, by rw [upd_ne (ne_of_none e h)]; exact e, q⟩
theorem Sta.not_own (s : Sta K T fm L O σ H Δ) {p : Addr} (h : H p = none) : p ∉ O := fun z => (s.dom p z).1 h
/-- a slot's data -/
theorem Sta.imm (s : Sta K T fm L O σ H Δ) {i : Nat} (h : Δ[i]? = some (some (.imm d))) : ∃ v, σ[i]? = some (some v) ∧ Rp K (mask H O) v d := s.slot i _ h
theorem Sta.ow (s : Sta K T fm L O σ H Δ) {i : Nat} {l : Addr} {br : Bool} {o : Ow} (h : Δ[i]? = some (some (.own l br o))) : σ[i]? = some (some (.ref l)) ∧ l ∈ O ∧ OwAt K (mask H O) H l o := by
  obtain ⟨v, h1, h2, h3, h4⟩ := s.slot i _ h
  subst h2
  exact ⟨h1, h3, h4⟩
theorem getset_ne {α : Type} {l : List α} {i j : Nat} {x : α} (h : i ≠ j) : (l.set i x)[j]? = l[j]? := List.getElem?_set_ne h
/-- a name is stored -/
theorem Sta.set (s : Sta K T fm L O σ H Δ) {i : Nat} {v : V} (hi : i < Δ.length) (h : Rp K (mask H O) v d) : Sta K T fm L O (σ.set i (some v)) H (Δ.set i (some (.imm d))) where
  tO := s.tO
  tab := s.tab
  dom := s.dom
  o0 := s.o0
  b0 := s.b0
  d0 := s.d0
  pin := s.pin
  keep := s.keep
  lock := s.lock
  len := by rw [List.length_set, List.length_set, s.len]
  slot := fun j e he => by
    by_cases hj : i = j
    · subst hj
      rw [List.getElem?_set_self hi] at he
      cases he
      exact ⟨v, by rw [List.getElem?_set_self (by rw [s.len]; exact hi)], h⟩
    · rw [getset_ne hj] at he ⊢
      exact s.slot j e he
  own := fun j l br o he => by
    by_cases hj : i = j
    · subst hj
      rw [List.getElem?_set_self hi] at he
      cases he
    · rw [getset_ne hj] at he
      exact s.own j l br o he
  sep := fun j k l br br' o o' h1 h2 => by
    by_cases hj : i = j
    · subst hj
      rw [List.getElem?_set_self hi] at h1
      cases h1
    · rw [getset_ne hj] at h1
      by_cases hk : i = k
      · subst hk
        rw [List.getElem?_set_self hi] at h2
        cases h2
      · rw [getset_ne hk] at h2
        exact s.sep j k l br br' o o' h1 h2
/-- a thing of one's own is stored in a name: p is new -/
theorem Sta.own_new (s : Sta K T fm L O σ H Δ) {i : Nat} {p : Addr} {u : HO} {o : Ow} (hi : i < Δ.length) (hp : H p = none) (h0 : fm.H0 p = none) (hu : OwAt K (mask H O) (upd H p u) p o) :
    Sta K T fm L (p :: O) (σ.set i (some (.ref p))) (upd H p u) (Δ.set i (some (.own p false o))) := by
  have hpT : p ∉ T := fun z => by
    obtain ⟨ps, e, _⟩ := s.tab p z
    rw [hp] at e; cases e
  have hpO := s.not_own hp
  have hm : mask (upd H p u) (p :: O) = mask H O := mask_new hp
  have hg : ∀ a v, H a = some v → upd H p u a = some v := fun a v e => by rw [upd_ne (ne_of_none e hp)]; exact e
  refine ⟨fun P hP => List.mem_cons_of_mem _ (s.tO P hP), fun P hP => ?_, fun l hl => ?_, fun l hl => List.mem_cons_of_mem _ (s.o0 l hl), s.b0, s.d0, fun q hq => by rw [hm]; exact s.pin q hq, fun a v e h1 h2 h3 => hg a v (s.keep a v e h1 h2 h3), fun q hq => hg _ _ (s.lock q hq), by rw [List.length_set, List.length_set, s.len], fun j e he => ?_, fun j l br o' he => ?_, fun j k l br1 br2 o1 o2 h1 h2 => ?_⟩
  · obtain ⟨ps, e, q⟩ := s.tab P hP
    exact ⟨ps, hg _ _ e, q⟩
  · rcases List.mem_cons.mp hl with z | z
    · subst z
      exact hu.held
    · by_cases hlp : l = p
      · subst hlp
        exact hu.held
      · exact (s.dom l z).keep fun v e => by rw [upd_ne hlp]; exact e
  · by_cases hj : i = j
    · subst hj
      rw [List.getElem?_set_self hi] at he
      cases he
      refine ⟨.ref p, by rw [List.getElem?_set_self (by rw [s.len]; exact hi)], rfl, List.mem_cons_self, ?_⟩
      rw [hm]
      exact hu
    · rw [getset_ne hj] at he ⊢
      obtain ⟨v, h1, h2⟩ := s.slot j e he
      refine ⟨v, h1, ?_⟩
      cases e with
      | imm d =>
        show Rp K (mask (upd H p u) (p :: O)) v d
        rw [hm]
        exact h2
      | own l br o' =>
        obtain ⟨q1, q2, q3⟩ := h2
        refine ⟨q1, List.mem_cons_of_mem _ q2, ?_⟩
        rw [hm]
        exact q3.mono (Le.refl _) fun w hw => hg l w hw
  · by_cases hj : i = j
    · subst hj
      rw [List.getElem?_set_self hi] at he
      cases he
      refine ⟨hpT, fun q hq z => ?_, h0⟩
      have := s.lock q hq
      rw [z, hp] at this; cases this
    · rw [getset_ne hj] at he
      exact s.own j l br o' he
  · by_cases hj : i = j
    · subst hj
      rw [List.getElem?_set_self hi] at h1
      cases h1
      by_cases hk : i = k
      · exact hk
      · rw [getset_ne hk] at h2
        obtain ⟨_, q, _⟩ := s.ow h2
        exact absurd q hpO
    · rw [getset_ne hj] at h1
      by_cases hk : i = k
      · subst hk
        rw [List.getElem?_set_self hi] at h2
        cases h2
        obtain ⟨_, q, _⟩ := s.ow h1
        exact absurd q hpO
      · rw [getset_ne hk] at h2
        exact s.sep j k l br1 br2 o1 o2 h1 h2
/-- a thing of one's own is changed -/
theorem Sta.own_upd (s : Sta K T fm L O σ H Δ) {i : Nat} {l : Addr} {u : HO} {br : Bool} {o o' : Ow} (hi : Δ[i]? = some (some (.own l br o))) (hu : OwAt K (mask H O) (upd H l u) l o') :
    Sta K T fm L O σ (upd H l u) (Δ.set i (some (.own l br o'))) := by
  obtain ⟨hσ, hlO, hat⟩ := s.ow hi
  obtain ⟨hlT, hlL, hl0⟩ := s.own i l br o hi
  have hlen : i < Δ.length := (List.getElem?_eq_some_iff.mp hi).1
  have hm : mask (upd H l u) O = mask H O := mask_upd hlO
  refine ⟨s.tO, fun P hP => ?_, fun b hb => ?_, s.o0, s.b0, s.d0, fun q hq => by rw [hm]; exact s.pin q hq, fun a v e h1 h2 h3 => ?_, fun q hq => ?_, by rw [List.length_set, s.len], fun j e he => ?_, fun j b br2 o2 he => ?_, fun j k b br1 br2 o1 o2 h1 h2 => ?_⟩
  · obtain ⟨ps, e, q⟩ := s.tab P hP
    exact ⟨ps, by rw [upd_ne fun (z : P = l) => hlT (z ▸ hP)]; exact e, q⟩
  · by_cases hb2 : b = l
    · subst hb2; exact hu.held
    · exact (s.dom b hb).keep fun v e => by rw [upd_ne hb2]; exact e
  · have hal : a ≠ l := fun z => by
      subst z
      cases br with
      | true => exact h2 hl0
      | false =>
        have z : fm.H0 a = none := hl0
        rw [z] at e; cases e
    rw [upd_ne hal]
    exact s.keep a v e h1 h2 h3
  · rw [upd_ne (hlL q hq)]
    exact s.lock q hq
  · by_cases hj : i = j
    · subst hj
      rw [List.getElem?_set_self hlen] at he
      cases he
      exact ⟨.ref l, hσ, rfl, hlO, by rw [hm]; exact hu⟩
    · rw [getset_ne hj] at he
      obtain ⟨v, h1, h2⟩ := s.slot j e he
      refine ⟨v, h1, ?_⟩
      cases e with
      | imm d =>
        show Rp K (mask (upd H l u) O) v d
        rw [hm]; exact h2
      | own b br2 o2 =>
        obtain ⟨q1, q2, q3⟩ := h2
        refine ⟨q1, q2, ?_⟩
        rw [hm]
        refine q3.mono (Le.refl _) fun w hw => ?_
        have hbl : b ≠ l := fun z => by
          subst z
          exact hj (s.sep i j b br br2 o o2 hi he)
        rw [upd_ne hbl]; exact hw
  · by_cases hj : i = j
    · subst hj
      rw [List.getElem?_set_self hlen] at he
      cases he
      exact ⟨hlT, hlL, hl0⟩
    · rw [getset_ne hj] at he
      exact s.own j b br2 o2 he
  · by_cases hj : i = j
    · subst hj
      rw [List.getElem?_set_self hlen] at h1
      cases h1
      by_cases hk : i = k
      · exact hk
      · rw [getset_ne hk] at h2
        exact s.sep i k l br br2 o o2 hi h2
    · rw [getset_ne hj] at h1
      by_cases hk : i = k
      · subst hk
        rw [List.getElem?_set_self hlen] at h2
        cases h2
        exact (s.sep i j l br br1 o o1 hi h1).symm
      · rw [getset_ne hk] at h2
        exact s.sep j k b br1 br2 o1 o2 h1 h2
/-- one's own thing is frozen -/
theorem Sta.freeze (s : Sta K T fm L O σ H Δ) {i : Nat} {l : Addr} {o : Ow} {d : Dt} (hi : Δ[i]? = some (some (.own l false o)))
    (hr : ∀ F : Hp, (∀ u, H l = some u → F l = some u) → Le (mask H O) F → Rp K F (.ref l) d) : Sta K T fm L (O.filter fun a => decide (a ≠ l)) σ H (Δ.set i (some (.imm d))) := by
  obtain ⟨hσ, hlO, hat⟩ := s.ow hi
  obtain ⟨hlT, hlL, hl0⟩ := s.own i l false o hi
  have hl0 : fm.H0 l = none := hl0
  have hlen : i < Δ.length := (List.getElem?_eq_some_iff.mp hi).1
  have memO : ∀ a, a ∈ (O.filter fun a => decide (a ≠ l)) ↔ a ∈ O ∧ a ≠ l := fun a => by simp [List.mem_filter]
  have le : Le (mask H O) (mask H (O.filter fun a => decide (a ≠ l))) := mask_sub fun a ha => ((memO a).mp ha).1
  refine ⟨fun P hP => (memO P).mpr ⟨s.tO P hP, fun z => hlT (z ▸ hP)⟩, s.tab, fun a ha => s.dom a ((memO a).mp ha).1, fun a ha => (memO a).mpr ⟨s.o0 a ha, fun z => s.d0 a ha (z ▸ hl0)⟩, s.b0, s.d0, fun q hq => (s.pin q hq).mono le, s.keep, s.lock, by rw [List.length_set, s.len], fun j e he => ?_, fun j b br o2 he => ?_, fun j k b br1 br2 o1 o2 h1 h2 => ?_⟩
  · by_cases hj : i = j
    · subst hj
      rw [List.getElem?_set_self hlen] at he
      cases he
      refine ⟨.ref l, hσ, hr _ (fun u hu => ?_) le⟩
      rw [mask_out (fun z => ((memO l).mp z).2 rfl)]
      exact hu
    · rw [getset_ne hj] at he
      obtain ⟨v, h1, h2⟩ := s.slot j e he
      refine ⟨v, h1, ?_⟩
      cases e with
      | imm d => exact Rp.mono le h2
      | own b br o2 =>
        obtain ⟨q1, q2, q3⟩ := h2
        exact ⟨q1, (memO b).mpr ⟨q2, fun z => hj (s.sep i j l false br o o2 hi (z ▸ he))⟩, q3.mono le fun w hw => hw⟩
  · by_cases hj : i = j
    · subst hj
      rw [List.getElem?_set_self hlen] at he
      cases he
    · rw [getset_ne hj] at he
      exact s.own j b br o2 he
  · by_cases hj : i = j
    · subst hj
      rw [List.getElem?_set_self hlen] at h1
      cases h1
    · rw [getset_ne hj] at h1
      by_cases hk : i = k
      · subst hk
        rw [List.getElem?_set_self hlen] at h2
        cases h2
      · rw [getset_ne hk] at h2
        exact s.sep j k b br1 br2 o1 o2 h1 h2
/-- slots forgotten -/
theorem Sta.weak {σ' : St} {Δ' : DEnv} (s : Sta K T fm L O σ H Δ) (hl : σ'.length = Δ'.length) (h : ∀ (i : Nat) (e : En), Δ'[i]? = some (some e) → Δ[i]? = some (some e) ∧ σ'[i]? = σ[i]?) : Sta K T fm L O σ' H Δ' :=
  ⟨s.tO, s.tab, s.dom, s.o0, s.b0, s.d0, s.pin, s.keep, s.lock, hl, fun i e he => by
    obtain ⟨h1, h2⟩ := h i e he
    rw [h2]
    exact s.slot i e h1, fun i l br o he => s.own i l br o (h i _ he).1, fun i j l br br' o o' h1 h2 => s.sep i j l br br' o o' (h i _ h1).1 (h j _ h2).1⟩
end
end DL

set_option Elab.async false
set_option linter.all false
set_option maxRecDepth 100000
set_option maxHeartbeats 2000000
/-! DL2: what an expression, a test, a block gives, in data. -/
namespace DL
open PySem PySem.Spec L2

def Ow.d : Ow → Dt
  | .lst ds => .lst ds
  | .dk kds => .dk (kds.map (·.1)) (kds.map (·.2))
  | .dt kds => .dt (kds.map (·.1)) (kds.map (·.2))
  | .ins C fs => .ins C (fs.map (·.1)) (fs.map (·.2))
inductive Res where
  | val (d : Dt) | own (o : Ow) | exc (C : Addr)
/-- what follows an expression -/
def RK (K : PySem.W.Frag) (T : List Addr) (fm : Fm) (L : Lk) (O : List Addr) (σ : St) (H : Hp) (Δ : DEnv) (Q : VK) (W : WX) : Res → Prop
  | .val d => ∀ v H2, Gr T H H2 → Sta K T fm L O σ H2 Δ → Rp K (mask H2 O) v d → Q v H2
  | .own o => ∀ p H2, H p = none → Gr T H H2 → Sta K T fm L (p :: O) σ H2 Δ → OwAt K (mask H2 (p :: O)) H2 p o → Q (.ref p) H2
  | .exc C => ∀ H2, Gr T H H2 → Sta K T fm L O σ H2 Δ → W (.ref C) none σ H2

def canE (X : Cx) (e : Expr) : TE := fun σ H Q => ∀ pins s, Inv X pins σ H s → wpAny (model X.prog X.w) X.A (eval e X.env) (EP X pins σ Q) X.xe s
theorem canE_ok {X : Cx} {e : Expr} : PE X e (canE X e) := ⟨fun pins s _ _ _ I h => h pins s I⟩
def canT (X : Cx) (e : Expr) : TT := fun σ H Q => ∀ pins s, Inv X pins σ H s → wpAny (model X.prog X.w) X.A (isTrue e X.env (eval e X.env)) (TP X pins σ Q) X.xe s
theorem canT_ok {X : Cx} {e : Expr} : PT X e (canT X e) := ⟨fun pins s _ _ _ I h => h pins s I⟩
def canW (X : Cx) (e : Expr) : TT := fun σ H Q => ∀ wh pins s, Inv X pins σ H s → wpAny (model X.prog X.w) X.A (isTrue e X.env wh) (TP X pins σ Q) X.xe s
theorem canW_ok {X : Cx} {e : Expr} : PW X e (canW X e) := ⟨fun wh pins s _ _ _ I h => h wh pins s I⟩
def canA (X : Cx) (es : List Expr) : TA := fun σ H Q => ∀ pos pins s, Inv X pins σ H s → wpAny (model X.prog X.w) X.A (spliced (backTo pos (starEach es X.env))) (AP X pins σ Q) X.xe s
theorem canA_ok {X : Cx} {es : List Expr} : PA X es (canA X es) := ⟨fun pos pins s _ _ _ I h => h pos pins s I⟩
def canS (X : Cx) (st : Stmt) : TS := fun D σ H => ∀ pins s, Inv X pins σ H s → wpAny (model X.prog X.w) X.A (exec st X.env) (SP X pins D) X.xe s
theorem canS_ok {X : Cx} {st : Stmt} : PS X st (canS X st) := ⟨fun pins s _ _ _ I h => h pins s I⟩
def canSs (X : Cx) (st : List Stmt) : TS := fun D σ H => ∀ pins s, Inv X pins σ H s → wpAny (model X.prog X.w) X.A (execs st X.env) (SP X pins D) X.xe s
theorem canSs_ok {X : Cx} {st : List Stmt} : PSs X st (canSs X st) := ⟨fun pins s _ _ _ I h => h pins s I⟩

structure PR (X : Cx) (T : List Addr) (Δ : DEnv) (e : Expr) (r : Res) : Prop where
  run : ∀ (fm : Fm) (L : Lk) (O : List Addr) (σ : St) (H : Hp) (Q : VK) (W : WX), Takes X W → Sta X.K T fm L O σ H Δ → RK X.K T fm L O σ H Δ Q W r → canE X e σ H Q
abbrev PD (X : Cx) (T : List Addr) (Δ : DEnv) (e : Expr) (d : Dt) : Prop := PR X T Δ e (.val d)
structure PTD (X : Cx) (T : List Addr) (Δ : DEnv) (e : Expr) (b : Bool) : Prop where
  run : ∀ (fm : Fm) (L : Lk) (O : List Addr) (σ : St) (H : Hp) (Q : Bool → Hp → Prop) (W : WX), Takes X W → Sta X.K T fm L O σ H Δ → (∀ H2, Gr T H H2 → Sta X.K T fm L O σ H2 Δ → Q b H2) → canT X e σ H Q
structure PWD (X : Cx) (T : List Addr) (Δ : DEnv) (e : Expr) (b : Bool) : Prop where
  run : ∀ (fm : Fm) (L : Lk) (O : List Addr) (σ : St) (H : Hp) (Q : Bool → Hp → Prop) (W : WX), Takes X W → Sta X.K T fm L O σ H Δ → (∀ H2, Gr T H H2 → Sta X.K T fm L O σ H2 Δ → Q b H2) → canW X e σ H Q
structure PAD (X : Cx) (T : List Addr) (Δ : DEnv) (es : List Expr) (ds : List Dt) : Prop where
  run : ∀ (fm : Fm) (L : Lk) (O : List Addr) (σ : St) (H : Hp) (Q : List V → Hp → Prop) (W : WX), Takes X W → Sta X.K T fm L O σ H Δ → (∀ vs H2, Gr T H H2 → Sta X.K T fm L O σ H2 Δ → RpA X.K (mask H2 O) vs ds → Q vs H2) → canA X es σ H Q

section
variable {K : PySem.W.Frag} {T : List Addr} {fm : Fm} {L : Lk} {O : List Addr} {σ : St} {H H' : Hp} {Δ : DEnv} {v : V} {d d1 d2 : Dt}
/-- nobody's own any more -/
theorem Sta.unown {p : Addr} (s : Sta K T fm L (p :: O) σ H Δ) (hO : p ∉ O) (h0 : p ∉ fm.O0) (hT : p ∉ T) (ho : ∀ (i : Nat) (l : Addr) (br : Bool) (o : Ow), Δ[i]? = some (some (.own l br o)) → l ≠ p) : Sta K T fm L O σ H Δ := by
  have le : Le (mask H (p :: O)) (mask H O) := mask_sub fun a ha => List.mem_cons_of_mem _ ha
  refine ⟨fun P hP => ?_, s.tab, fun l hl => s.dom l (List.mem_cons_of_mem _ hl), fun l hl => ?_, s.b0, s.d0, fun q hq => (s.pin q hq).mono le, s.keep, s.lock, s.len, fun i e he => ?_, s.own, s.sep⟩
  · rcases List.mem_cons.mp (s.tO P hP) with z | z
    · exact absurd (z ▸ hP) hT
    · exact z
  · rcases List.mem_cons.mp (s.o0 l hl) with z | z
    · exact absurd (z ▸ hl) h0
    · exact z
  · obtain ⟨v, h1, h2⟩ := s.slot i e he
    refine ⟨v, h1, ?_⟩
    cases e with
    | imm d => exact Rp.mono le h2
    | own l br o =>
      obtain ⟨q1, q2, q3⟩ := h2
      refine ⟨q1, (List.mem_cons.mp q2).resolve_left (ho i l br o he), q3.mono le fun u hu => hu⟩
/-- a new heap's thing may be hidden -/
theorem Sta.hide {p : Addr} {u : HO} (s : Sta K T fm L O σ H Δ) (hp : H p = none) (hu : ∀ xs, u ≠ .tup xs := by intro xs z; cases z) : Sta K T fm L (p :: O) σ (upd H p u) Δ := by
  have s1 := s.new (o := u) hp
  have hm : mask (upd H p u) (p :: O) = mask H O := mask_new hp
  refine ⟨fun P hP => List.mem_cons_of_mem _ (s.tO P hP), s1.tab, fun l hl => ?_, fun l hl => List.mem_cons_of_mem _ (s.o0 l hl), s.b0, s.d0, fun q hq => by rw [hm]; exact s.pin q hq, s1.keep, s1.lock, s.len, fun i e he => ?_, s.own, s.sep⟩
  · rcases List.mem_cons.mp hl with z | z
    · rw [z]; exact .of upd_same hu
    · exact s1.dom l z
  · obtain ⟨v, h1, h2⟩ := s.slot i e he
    refine ⟨v, h1, ?_⟩
    cases e with
    | imm d =>
      show Rp K (mask (upd H p u) (p :: O)) v d
      rw [hm]; exact h2
    | own l br o =>
      obtain ⟨q1, q2, q3⟩ := h2
      refine ⟨q1, List.mem_cons_of_mem _ q2, ?_⟩
      rw [hm]
      exact q3.mono (Le.refl _) fun w hw => by rw [upd_ne (ne_of_none hw hp)]; exact hw
theorem OwAt.rp {p : Addr} {o : Ow} {F : Hp} (h : OwAt K F H p o) (hF : Le F H) (hm : F p = none → True) {G : Hp} (hG : ∀ u, H p = some u → G p = some u) (le : Le F G) : Rp K G (.ref p) o.d := by
  cases o with
  | lst ds =>
    obtain ⟨vs, a, b⟩ := h
    exact .lst (hG _ a) b.len (b.mono le).at_
  | dk kds =>
    obtain ⟨kvs, a, b⟩ := h
    have hl : kvs.length = kds.length := by have := b.vals.len; simpa using this
    refine .dk (kvs := kvs) (.inl (hG _ a)) b.keys (by rw [List.length_map]; exact hl) fun i x e hx he => ?_
    exact (b.vals.mono le).at_ i x.2 e (by rw [List.getElem?_map, hx]; rfl) he
  | dt kds =>
    obtain ⟨kvs, a, b⟩ := h
    have hl : kvs.length = kds.length := by have := b.vals.len; simpa using this
    refine .dt (kvs := kvs) (.inl (hG _ a)) b.keys (by rw [List.length_map]; exact hl) fun i x e hx he => ?_
    exact (b.vals.mono le).at_ i x.2 e (by rw [List.getElem?_map, hx]; rfl) he
  | ins C fs =>
    obtain ⟨dx, kvs, a, b⟩ := h
    have hl : kvs.length = fs.length := by have := b.vals.len; simpa using this
    refine .ins (kvs := kvs) (hG _ a) b.keys (by rw [List.length_map]; exact hl) fun i x e hx he => ?_
    exact (b.vals.mono le).at_ i x.2 e (by rw [List.getElem?_map, hx]; rfl) he
theorem Sta.new_apart {p : Addr} (s : Sta K T fm L O σ H Δ) (hp : H p = none) : p ∉ O ∧ p ∉ fm.O0 ∧ p ∉ T ∧ ∀ (i : Nat) (l : Addr) (br : Bool) (o : Ow), Δ[i]? = some (some (.own l br o)) → l ≠ p := by
  have h1 := s.not_own hp
  refine ⟨h1, fun z => h1 (s.o0 p z), fun z => h1 (s.tO p z), fun i l br o he z => ?_⟩
  subst z
  obtain ⟨_, q, _⟩ := s.ow he
  exact h1 q
theorem Sta.fresh0 {p : Addr} (s : Sta K T fm L O σ H Δ) (hp : H p = none) : fm.H0 p = none := by
  cases q : fm.H0 p with
  | none => rfl
  | some o =>
    obtain ⟨a, b, c, _⟩ := s.new_apart hp
    have := s.keep p o q c (fun z => b (s.b0 p z)) (fun r hr z => by
      have := s.lock r hr
      rw [z, hp] at this; cases this)
    rw [hp] at this; cases this
end

section
variable {X : Cx} {T : List Addr} {Δ : DEnv} {e a b c : Expr} {es : List Expr} {d d1 d2 d3 : Dt} {ds : List Dt} {r : Res} {pos : Pos}

theorem PR.of {t : TE} (h : PE X e t) (k : ∀ (fm : Fm) (L : Lk) (O : List Addr) (σ : St) (H : Hp) (Q : VK) (W : WX), Takes X W → Sta X.K T fm L O σ H Δ → RK X.K T fm L O σ H Δ Q W r → t σ H Q) : PR X T Δ e r :=
  ⟨fun fm L O σ H Q W tk s q pins sh I => h.run pins sh σ H Q I (k fm L O σ H Q W tk s q)⟩
theorem PTD.of {t : TT} {k : Bool} (h : PT X e t) (f : ∀ (fm : Fm) (L : Lk) (O : List Addr) (σ : St) (H : Hp) (Q : Bool → Hp → Prop) (W : WX), Takes X W → Sta X.K T fm L O σ H Δ → (∀ H2, Gr T H H2 → Sta X.K T fm L O σ H2 Δ → Q k H2) → t σ H Q) : PTD X T Δ e k :=
  ⟨fun fm L O σ H Q W tk s q pins sh I => h.run pins sh σ H Q I (f fm L O σ H Q W tk s q)⟩
theorem PWD.of {t : TT} {k : Bool} (h : PW X e t) (f : ∀ (fm : Fm) (L : Lk) (O : List Addr) (σ : St) (H : Hp) (Q : Bool → Hp → Prop) (W : WX), Takes X W → Sta X.K T fm L O σ H Δ → (∀ H2, Gr T H H2 → Sta X.K T fm L O σ H2 Δ → Q k H2) → t σ H Q) : PWD X T Δ e k :=
  ⟨fun fm L O σ H Q W tk s q wh pins sh I => h.run wh pins sh σ H Q I (f fm L O σ H Q W tk s q)⟩
theorem PWD.pt {k : Bool} (h : PWD X T Δ e k) : PTD X T Δ e k := ⟨fun fm L O σ H Q W tk s q pins sh I => h.run fm L O σ H Q W tk s q _ pins sh I⟩
theorem PAD.of {t : TA} (h : PA X es t) (k : ∀ (fm : Fm) (L : Lk) (O : List Addr) (σ : St) (H : Hp) (Q : List V → Hp → Prop) (W : WX), Takes X W → Sta X.K T fm L O σ H Δ → (∀ vs H2, Gr T H H2 → Sta X.K T fm L O σ H2 Δ → RpA X.K (mask H2 O) vs ds → Q vs H2) → t σ H Q) : PAD X T Δ es ds :=
  ⟨fun fm L O σ H Q W tk s q pos pins sh I => h.run pos pins sh σ H Q I (k fm L O σ H Q W tk s q)⟩
/-- a new thing, taken as data -/
theorem PR.dat {o : Ow} (h : PR X T Δ e (.own o)) : PD X T Δ e o.d := ⟨fun fm L O σ H Q W tk s q => h.run fm L O σ H Q W tk s fun p H2 hp g s2 ow => by
  obtain ⟨a1, a2, a3, a4⟩ := s.new_apart hp
  refine q (.ref p) H2 g (s2.unown a1 a2 a3 a4) ?_
  refine ow.rp (mask_le _ _) (fun _ => trivial) (fun u hu => ?_) (mask_sub fun a ha => List.mem_cons_of_mem _ ha)
  rw [mask_out a1]; exact hu⟩

/-! ### names and constants -/
theorem pd_v (i : Nat) {x : Str} {pos : Pos} (h : Δ[i]? = some (some (.imm d))) (hN : X.N[i]? = some x := by rfl) (hv : Vis X.env.scope x := by first | exact Or.inl rfl | exact Or.inr (Or.inl rfl) | exact Or.inr (Or.inr rfl)) (hd : (x == ("__debug__" : Str)) = false := by decide)
    (hcd : (x == ("__classdict__" : Str)) = false := by decide) : PD X T Δ (.Name x pos) d :=
  .of (pe_var hN hv hd hcd) fun fm L O σ H Q W tk s q => by
    obtain ⟨v, h1, h2⟩ := s.imm h
    exact ⟨v, h1, q v H Gr.refl s h2⟩
theorem pd_c {e : Expr} {v : V} (h : PE X e (tC v)) (hr : ∀ F, Rp X.K F v d) : PD X T Δ e d := .of h fun fm L O σ H Q W tk s q => q v H Gr.refl s (hr _)
theorem pd_int {i j pos} : PD X T Δ (.Constant (.int i) j pos) (.int i) := pd_c pe_int fun _ => .int i
theorem pd_bl {b j pos} : PD X T Δ (.Constant (.bool b) j pos) (.bl b) := pd_c pe_bl fun _ => .bl b
theorem pd_non {j pos} : PD X T Δ (.Constant .none j pos) .non := pd_c pe_non fun _ => .non
theorem rp_str {K : PySem.W.Frag} {F : Hp} (x : Str) : Rp K F (.str x) (.str x.cps.toList) := by
  have h := Rp.str (K := K) (F := F) x.cps.toList
  have e : (⟨x.cps.toList.toArray⟩ : Str) = x := by cases x; simp
  rwa [e] at h
theorem pd_str {x j pos} : PD X T Δ (.Constant (.str x) j pos) (.str x.cps.toList) := pd_c pe_str fun _ => rp_str x
/-- a whole number of the module; a built-in type -/
theorem pd_gint {x : Str} {i : Int} {t : Tok} {pos : Pos} (hm : X.mg x = some (.int i t)) (hg : Gl X x := by rfl) (hd : (x == ("__debug__" : Str)) = false := by decide) : PD X T Δ (.Name x pos) (.int i) :=
  pd_c (pe_glob (v := .int i) hg hm ⟨t, rfl⟩ hd) fun _ => .int i
theorem pd_bty {x : Str} {n : String} {pos : Pos} (hm : X.mg x = none) (hv : bootBuiltins x = some (.type n)) (hg : Gl X x := by rfl) (hn : x ≠ "__name__" := by decide) (hd : (x == ("__debug__" : Str)) = false := by decide) : PD X T Δ (.Name x pos) (.ty n) :=
  pd_c (pe_bltn (v := .ty n) hg hm hv rfl hn hd) fun _ => .ty n

/-! ### operators -/
/-- an operation on values, in data -/
def OpD (X : Cx) (T : List Addr) (r : R2) (d1 d2 : Dt) (res : Res) : Prop := ∀ (fm : Fm) (L : Lk) (O : List Addr) (σ : St) (H : Hp) (Δ : DEnv) (Q : VK) (W : WX) (x y : V), Takes X W → Sta X.K T fm L O σ H Δ → Rp X.K (mask H O) x d1 → Rp X.K (mask H O) y d2 → RK X.K T fm L O σ H Δ Q W res → r x y H Q
theorem RK.back {K : PySem.W.Frag} {T : List Addr} {fm : Fm} {L : Lk} {O : List Addr} {σ : St} {H H1 : Hp} {Δ : DEnv} {Q : VK} {W : WX} {res : Res} (s : Sta K T fm L O σ H Δ) (s1 : Sta K T fm L O σ H1 Δ) (g : Gr T H H1) (h : RK K T fm L O σ H Δ Q W res) : RK K T fm L O σ H1 Δ Q W res := by
  cases res with
  | val d => exact fun v H2 g2 s2 r => h v H2 (g.trans g2) s2 r
  | own o => exact fun p H2 hp g2 s2 r => h p H2 (g.back (s1.new_apart hp).2.2.1 hp) (g.trans g2) s2 r
  | exc C => exact fun H2 g2 s2 => h H2 (g.trans g2) s2
theorem two {ta tb : TE} {r : R2} {res : Res} (ha : PD X T Δ a d1) (hb : PD X T Δ b d2) (hr : OpD X T r d1 d2 res) (fm : Fm) (L : Lk) (O : List Addr) (σ : St) (H : Hp) (Q : VK) (W : WX) (tk : Takes X W) (s : Sta X.K T fm L O σ H Δ) (q : RK X.K T fm L O σ H Δ Q W res) :
    tOp r (canE X a) (canE X b) σ H Q :=
  ha.run fm L O σ H _ W tk s fun x H1 g1 s1 r1 => hb.run fm L O σ H1 _ W tk s1 fun y H2 g2 s2 r2 => hr fm L O σ H2 Δ Q W x y tk s2 (r1.mono (g2.mask s2.tO)) r2 (q.back s s2 (g1.trans g2))
theorem pd_op {op : Operator} {r : R2} {res : Res} (ho : OpR X (binaryOp op) r) (ha : PD X T Δ a d1) (hb : PD X T Δ b d2) (hr : OpD X T r d1 d2 res) : PR X T Δ (.BinOp a op b pos) res :=
  .of (pe_op ho canE_ok canE_ok) (two (ta := canE X a) (tb := canE X b) ha hb hr)
theorem pd_cmp {op : CmpOp} {r : R2} {res : Res} (ho : OpR X (compareOp op) r) (hm : behindInMarks op b = false) (ha : PD X T Δ a d1) (hb : PD X T Δ b d2) (hr : OpD X T r d1 d2 res) : PR X T Δ (.Compare a [op] [b] pos) res :=
  .of (pe_cmpR ho canE_ok canE_ok hm) (two (ta := canE X a) (tb := canE X b) ha hb hr)
theorem ptd_cmp {op : CmpOp} {r : R2} {k : Bool} (ho : OpR X (compareOp op) r) (hm : behindInMarks op b = false) (ha : PD X T Δ a d1) (hb : PD X T Δ b d2) (hr : OpD X T r d1 d2 (.val (.bl k))) : PTD X T Δ (.Compare a [op] [b] pos) k :=
  .of (pt_cmpR ho canE_ok canE_ok hm) fun fm L O σ H Q W tk s q => two (ta := canE X a) (tb := canE X b) ha hb hr fm L O σ H _ W tk s fun v H2 g2 s2 r2 => ⟨k, r2.bl_of, q H2 g2 s2⟩
theorem opd_I0 {g : Int → Int → V} {i j : Int} {d : Dt} (h : ∀ F, Rp X.K F (g i j) d) : OpD X T (rI0 g) (.int i) (.int j) (.val d) := fun fm L O σ H Δ Q W x y tk s r1 r2 q =>
  ⟨i, j, r1.int_of, r2.int_of, q _ H Gr.refl s (h _)⟩
theorem opd_I {C : Int → Int → Prop} {g : Int → Int → V} {i j : Int} {d : Dt} (hc : C i j) (h : ∀ F, Rp X.K F (g i j) d) : OpD X T (rI C g) (.int i) (.int j) (.val d) := fun fm L O σ H Δ Q W x y tk s r1 r2 q =>
  ⟨i, j, r1.int_of, r2.int_of, hc, q _ H Gr.refl s (h _)⟩
theorem pd_addI {i j : Int} (ha : PD X T Δ a (.int i)) (hb : PD X T Δ b (.int j)) : PD X T Δ (.BinOp a .Add b pos) (.int (i + j)) := pd_op op_add ha hb (opd_I0 fun _ => .int _)
theorem pd_subI {i j : Int} (ha : PD X T Δ a (.int i)) (hb : PD X T Δ b (.int j)) : PD X T Δ (.BinOp a .Sub b pos) (.int (i - j)) := pd_op op_sub ha hb (opd_I0 fun _ => .int _)
theorem pd_mulI {i j : Int} (ha : PD X T Δ a (.int i)) (hb : PD X T Δ b (.int j)) (hc : CMul i j) : PD X T Δ (.BinOp a .Mult b pos) (.int (i * j)) := pd_op op_mul ha hb (opd_I hc fun _ => .int _)
theorem pd_modI {i j : Int} (ha : PD X T Δ a (.int i)) (hb : PD X T Δ b (.int j)) (hc : 0 < j) : PD X T Δ (.BinOp a .Mod b pos) (.int (i % j)) := pd_op op_mod ha hb (opd_I hc fun _ => .int _)
theorem pd_divI {i j : Int} (ha : PD X T Δ a (.int i)) (hb : PD X T Δ b (.int j)) (hc : CDiv i j) : PD X T Δ (.BinOp a .FloorDiv b pos) (.int (i / j)) := pd_op op_fdiv ha hb (opd_I hc fun _ => .int _)
theorem pd_negI {i : Int} (ha : PD X T Δ a (.int i)) : PD X T Δ (.UnaryOp .USub a pos) (.int (-i)) :=
  .of (pe_un un_neg canE_ok) fun fm L O σ H Q W tk s q => ha.run fm L O σ H _ W tk s fun x H1 g1 s1 r1 => ⟨i, r1.int_of, q _ H1 g1 s1 (.int _)⟩
theorem str_app (i j : List Nat) : (⟨i.toArray⟩ : Str) ++ (⟨j.toArray⟩ : Str) = ⟨(i ++ j).toArray⟩ := by
  show (⟨i.toArray ++ j.toArray⟩ : Str) = _
  simp
theorem pd_addS {i j : List Nat} (ha : PD X T Δ a (.str i)) (hb : PD X T Δ b (.str j)) (hc : i.length + j.length ≤ sizeLine) : PD X T Δ (.BinOp a .Add b pos) (.str (i ++ j)) :=
  pd_op op_add_str ha hb fun fm L O σ H Δ Q W x y tk s r1 r2 q => ⟨_, _, r1.str_of, r2.str_of, by simpa [Str.length] using hc, q _ H Gr.refl s (by rw [str_app]; exact .str _)⟩
end
end DL

set_option Elab.async false
set_option linter.all false
set_option maxRecDepth 100000
set_option maxHeartbeats 2000000
/-! DL3: the operators, subscripts, slices, calls of built-ins. -/
namespace DL
open PySem PySem.Spec L2

section
variable {X : Cx} {T : List Addr} {Δ : DEnv} {e a b c : Expr} {es : List Expr} {d d1 d2 d3 : Dt} {ds : List Dt} {r : Res} {pos : Pos}
variable {K : PySem.W.Frag} {fm : Fm} {L : Lk} {O : List Addr} {σ : St} {H H' : Hp} {Q : VK} {W : WX}

/-! ### new things -/
theorem Rp.new_tup {p : Addr} {vs : List V} (s : Sta K T fm L O σ H Δ) (hp : H p = none) (ra : RpA K (mask H O) vs ds) : Rp K (mask (upd H p (.tup vs)) O) (.ref p) (.tup ds) := by
  have h1 := s.not_own hp
  refine .tup (xs := vs) ?_ ra.len (ra.mono ((Gr.new (T := T) hp).mask s.tO)).at_
  rw [mask_out h1, upd_same]
theorem RK.tup {p : Addr} {vs : List V} (q : RK K T fm L O σ H Δ Q W (.val (.tup ds))) (s : Sta K T fm L O σ H Δ) (ra : RpA K (mask H O) vs ds) (hp : H p = none) : Q (.ref p) (upd H p (.tup vs)) :=
  q _ _ (Gr.new hp) (s.new hp) (Rp.new_tup s hp ra)
theorem RK.new {p : Addr} {u : HO} {o : Ow} (q : RK K T fm L O σ H Δ Q W (.own o)) (s : Sta K T fm L O σ H Δ) (hp : H p = none) (hu : OwAt K (mask H O) (upd H p u) p o) : Q (.ref p) (upd H p u) :=
  q p _ hp (Gr.new hp) (s.hide hp fun xs z => hu.held.2 xs (by rw [upd_same, z])) (by rw [mask_new hp]; exact hu)
theorem RK.lst {p : Addr} {vs : List V} (q : RK K T fm L O σ H Δ Q W (.own (.lst ds))) (s : Sta K T fm L O σ H Δ) (ra : RpA K (mask H O) vs ds) (hp : H p = none) : Q (.ref p) (upd H p (.lst vs)) :=
  q.new s hp ⟨vs, upd_same, ra⟩
theorem Sta.out (s : Sta K T fm L O σ H Δ) {p : Addr} {u : HO} (h : mask H O p = some u) : H p = some u := (mask_some h).1

/-! ### displays -/
theorem pad_nil : PAD X T Δ [] [] := .of pa_nil fun fm L O σ H Q W tk s q => q [] H Gr.refl s .nil
theorem pad_cons (ha : PD X T Δ e d) (hr : PAD X T Δ es ds) (hs : starEach (e :: es) X.env = (false, eval e X.env) :: starEach es X.env := by rfl) : PAD X T Δ (e :: es) (d :: ds) :=
  .of (pa_cons canE_ok canA_ok hs) fun fm L O σ H Q W tk s q => ha.run fm L O σ H _ W tk s fun x H1 g1 s1 r1 => hr.run fm L O σ H1 _ W tk s1 fun xs H2 g2 s2 r2 =>
    q (x :: xs) H2 (g1.trans g2) s2 (.cons (r1.mono (g2.mask s2.tO)) r2)
theorem sz_le {n : Nat} (h : n ≤ 1000000) : n ≤ sizeLine := Nat.le_trans h (by decide)
theorem pd_tup {x1} (h : PAD X T Δ es ds) (hz : ds.length ≤ sizeLine := by first | decide | exact sz_le (by simp)) : PD X T Δ (.Tuple es x1 pos) (.tup ds) :=
  .of (pe_tup canA_ok) fun fm L O σ H Q W tk s q => h.run fm L O σ H _ W tk s fun vs H1 g1 s1 r1 => ⟨by rw [r1.len]; exact hz, fun p hp => (q.back s s1 g1).tup s1 r1 hp⟩
theorem pr_lst (h : PAD X T Δ es ds) (hz : ds.length ≤ sizeLine := by first | decide | exact sz_le (by simp)) : PR X T Δ (.List es pos) (.own (.lst ds)) :=
  .of (pe_lst canA_ok) fun fm L O σ H Q W tk s q => h.run fm L O σ H _ W tk s fun vs H1 g1 s1 r1 => ⟨by rw [r1.len]; exact hz, fun p hp => (q.back s s1 g1).lst s1 r1 hp⟩
theorem KRp.nil {κ : Type} {F : Hp} : KRp (κ := κ) K F [] [] := ⟨rfl, .nil⟩
theorem pr_dK : PR X T Δ (.Dict [] [] pos) (.own (.dk [])) := .of pe_dnewK fun fm L O σ H Q W tk s q p hp => q.new s hp ⟨[], upd_same, .nil⟩
theorem pr_dT : PR X T Δ (.Dict [] [] pos) (.own (.dt [])) := .of pe_dnewT fun fm L O σ H Q W tk s q p hp => q.new s hp ⟨[], upd_same, .nil⟩

/-! ### together -/
theorem pd_catT {xs ys : List Dt} (ha : PD X T Δ a (.tup xs)) (hb : PD X T Δ b (.tup ys)) (hz : xs.length + ys.length ≤ sizeLine := by first | decide | exact sz_le (by simp)) : PD X T Δ (.BinOp a .Add b pos) (.tup (xs ++ ys)) :=
  pd_op op_catA ha hb fun fm L O σ H Δ Q W x y tk s r1 r2 q => by
    obtain ⟨a1, vs, e1, h1, ra⟩ := r1.tup_of
    obtain ⟨a2, ws, e2, h2, rb⟩ := r2.tup_of
    subst e1 e2
    refine ⟨a1, a2, vs, ws, rfl, rfl, .of (s.out h1), .of (s.out h2), by rw [ra.len, rb.len]; exact hz, fun z => ?_, fun _ z => ?_, fun _ _ p hp => q.tup s (ra.append rb) hp⟩
    · subst z
      have : xs = [] := List.eq_nil_of_length_eq_zero (by have := ra.len; simpa using this.symm)
      subst this
      exact q _ H Gr.refl s r2
    · subst z
      have : ys = [] := List.eq_nil_of_length_eq_zero (by have := rb.len; simpa using this.symm)
      subst this
      rw [List.append_nil] at q
      exact q _ H Gr.refl s r1
theorem pr_catL {xs ys : List Dt} (ha : PD X T Δ a (.lst xs)) (hb : PD X T Δ b (.lst ys)) (hz : xs.length + ys.length ≤ sizeLine := by first | decide | exact sz_le (by simp)) : PR X T Δ (.BinOp a .Add b pos) (.own (.lst (xs ++ ys))) :=
  pd_op op_cat ha hb fun fm L O σ H Δ Q W x y tk s r1 r2 q => by
    obtain ⟨a1, vs, e1, h1, ra⟩ := r1.lst_of
    obtain ⟨a2, ws, e2, h2, rb⟩ := r2.lst_of
    exact ⟨a1, a2, vs, ws, e1, e2, s.out h1, s.out h2, by rw [ra.len, rb.len]; exact hz, fun p hp => q.lst s (ra.append rb) hp⟩
theorem RpA.rep {F : Hp} {vs : List V} (h : RpA K F vs ds) : ∀ k : Nat, RpA K F (List.replicate k vs).flatten (List.replicate k ds).flatten
  | 0 => .nil
  | k + 1 => by
    rw [List.replicate_succ, List.replicate_succ, List.flatten_cons, List.flatten_cons]
    exact h.append (RpA.rep h k)
theorem pr_repL {xs : List Dt} {k : Int} (ha : PD X T Δ a (.lst xs)) (hb : PD X T Δ b (.int k)) (h1 : -(2 ^ 63) ≤ k) (h2 : k < 2 ^ 63) (hz : xs.length * k.toNat ≤ sizeLine) : PR X T Δ (.BinOp a .Mult b pos) (.own (.lst (List.replicate k.toNat xs).flatten)) :=
  pd_op op_rep ha hb fun fm L O σ H Δ Q W x y tk s r1 r2 q => by
    obtain ⟨a1, vs, e1, g1, ra⟩ := r1.lst_of
    exact ⟨a1, k, vs, e1, r2.int_of, s.out g1, h1, h2, by rw [ra.len]; exact hz, fun p hp => q.lst s (ra.rep k.toNat) hp⟩

/-! ### subscripts -/
def dIx : Dt → Int → Option Dt
  | .lst ds, i => atI ds i
  | .tup ds, i => atI ds i
  | .str z, i => (atI z i).map fun c => .str [c]
  | .scr ns, i => (atI ns i).map .int
  | _, _ => none
def IxOk : Dt → Prop
  | .str z => z.length ≤ sizeLine
  | _ => True
theorem RpA.atI {F : Hp} {vs : List V} {i : Int} (h : RpA K F vs ds) (e : L2.atI ds i = some d) : ∃ v, L2.atI vs i = some v ∧ Rp K F v d := by
  unfold L2.atI at e ⊢
  rw [h.len]
  cases hj : ixN ds.length i with
  | none => rw [hj] at e; cases e
  | some j =>
    rw [hj] at e
    exact h.get e
theorem pd_ix {i : Int} (ha : PD X T Δ a d1) (hb : PD X T Δ b (.int i)) (h : dIx d1 i = some d) (hok : IxOk d1 := by first | exact trivial | decide) (hs : PlainIx b := by exact fun _ _ => rfl) : PD X T Δ (.Subscript a b pos) d :=
  .of (pe_ix ix_seq canE_ok canE_ok hs) (two (ta := canE X a) (tb := canE X b) ha hb fun fm L O σ H Δ Q W x y tk s r1 r2 q => by
    have ey := r2.int_of
    subst ey
    cases r1 with
    | tup g hl hi =>
      obtain ⟨v, e, rv⟩ := RpA.atI ⟨hl, hi⟩ h
      exact .inr (.inl ⟨_, _, i, v, rfl, rfl, .of (s.out g), e, q v H Gr.refl s rv⟩)
    | lst g hl hi =>
      obtain ⟨v, e, rv⟩ := RpA.atI ⟨hl, hi⟩ h
      exact .inl ⟨_, _, i, v, rfl, rfl, .of (s.out g), e, q v H Gr.refl s rv⟩
    | str z =>
      have h : (L2.atI z i).map (fun c => Dt.str [c]) = some d := h
      cases hz : L2.atI z i with
      | none => rw [hz] at h; cases h
      | some c =>
        rw [hz] at h
        cases h
        have hok : z.length ≤ sizeLine := hok
        exact .inr (.inr ⟨_, i, c, rfl, rfl, by simpa [Str.length] using hok, by simpa using hz, q _ H Gr.refl s (.str [c])⟩)
    | @scr a ns g =>
      have h : (L2.atI ns i).map Dt.int = some d := h
      cases hz : L2.atI ns i with
      | none => rw [hz] at h; cases h
      | some n =>
        rw [hz] at h
        cases h
        refine .inl ⟨_, _, i, .int n, rfl, rfl, (mask_le H O).scr g, ?_, q _ H Gr.refl s (.int n)⟩
        unfold L2.atI at hz ⊢
        rw [List.length_map]
        cases hj : ixN ns.length i with
        | none => rw [hj] at hz; cases hz
        | some j =>
          rw [hj] at hz
          show (ns.map V.int)[j]? = _
          rw [List.getElem?_map, show ns[j]? = some n from hz] <;> rfl
    | _ => cases h)
/-! ### slices -/
structure POD (X : Cx) (T : List Addr) (Δ : DEnv) (e : Option Expr) (o : Option Int) : Prop where
  ex : ∃ t : TO, PO X e t ∧ ∀ (fm : Fm) (L : Lk) (O : List Addr) (σ : St) (H : Hp) (Q : Option Int → Hp → Prop) (W : WX), Takes X W → Sta X.K T fm L O σ H Δ → (∀ H2, Gr T H H2 → Sta X.K T fm L O σ H2 Δ → Q o H2) → t σ H Q
theorem pod_none : POD X T Δ none none := ⟨_, po_none, fun fm L O σ H Q W tk s q => q H Gr.refl s⟩
theorem pod_some {i : Int} (h : PD X T Δ e (.int i)) : POD X T Δ (some e) (some i) :=
  ⟨_, po_some canE_ok, fun fm L O σ H Q W tk s q => h.run fm L O σ H _ W tk s fun x H1 g1 s1 r1 => ⟨i, r1.int_of, q H1 g1 s1⟩⟩
def cutD {α : Type} (xs : List α) (lo hi : Option Int) : List α := (xs.drop (HT.sIx xs.length 0 lo)).take (HT.sIx xs.length xs.length hi - HT.sIx xs.length 0 lo)
theorem RpA.cut {F : Hp} {vs : List V} {lo hi : Option Int} (h : RpA K F vs ds) : RpA K F (cutV vs lo hi) (cutD ds lo hi) := by
  unfold cutV cutD
  rw [h.len]
  exact (h.drop _).take _
theorem slice_all {r : V → Option Int → Option Int → Hp → VK → Prop} {lo hi : Option Expr} {l u : Option Int} {p2 : Pos} {res : Res} (hr : SlR X r) (he : PD X T Δ e d) (hl : POD X T Δ lo l) (hu : POD X T Δ hi u)
    (k : ∀ (fm : Fm) (L : Lk) (O : List Addr) (σ : St) (H : Hp) (Q : VK) (W : WX) (x : V), Sta X.K T fm L O σ H Δ → Rp X.K (mask H O) x d → RK X.K T fm L O σ H Δ Q W res → r x l u H Q) : PR X T Δ (.Subscript e (.Slice lo hi none p2) pos) res := by
  obtain ⟨tl, hl1, hl2⟩ := hl.ex
  obtain ⟨tu, hu1, hu2⟩ := hu.ex
  exact .of (pe_slice hr canE_ok hl1 hu1) fun fm L O σ H Q W tk s q => he.run fm L O σ H _ W tk s fun x H1 g1 s1 r1 => hl2 fm L O σ H1 _ W tk s1 fun H2 g2 s2 => hu2 fm L O σ H2 _ W tk s2 fun H3 g3 s3 =>
    k fm L O σ H3 Q W x s3 (r1.mono ((g2.trans g3).mask s3.tO)) (q.back s s3 ((g1.trans g2).trans g3))
theorem pr_sliceL {lo hi : Option Expr} {l u : Option Int} {p2 : Pos} (he : PD X T Δ e (.lst ds)) (hl : POD X T Δ lo l) (hu : POD X T Δ hi u) : PR X T Δ (.Subscript e (.Slice lo hi none p2) pos) (.own (.lst (cutD ds l u))) :=
  slice_all sl_list he hl hu fun fm L O σ H Q W x s r q => by
    obtain ⟨a1, vs, e1, h1, ra⟩ := r.lst_of
    exact ⟨a1, vs, e1, .of (s.out h1), fun p hp => q.lst s ra.cut hp⟩
theorem cutV_whole {xs : List V} {lo hi : Option Int} (h : HT.sIx xs.length 0 lo = 0 ∧ HT.sIx xs.length xs.length hi = xs.length) : cutV xs lo hi = xs := by
  unfold cutV
  rw [h.1, h.2]
  simp
theorem pd_sliceT {lo hi : Option Expr} {l u : Option Int} {p2 : Pos} (he : PD X T Δ e (.tup ds)) (hl : POD X T Δ lo l) (hu : POD X T Δ hi u) : PD X T Δ (.Subscript e (.Slice lo hi none p2) pos) (.tup (cutD ds l u)) :=
  slice_all sl_tupA he hl hu fun fm L O σ H Q W x s r q => by
    obtain ⟨a1, vs, e1, h1, ra⟩ := r.tup_of
    subst e1
    refine ⟨a1, vs, rfl, .of (s.out h1), fun hw => ?_, fun _ p hp => q.tup s ra.cut hp⟩
    refine q _ H Gr.refl s (.tup (xs := vs) h1 ?_ ?_)
    · have := (ra.cut (lo := l) (hi := u)).len
      rwa [cutV_whole hw] at this
    · have := (ra.cut (lo := l) (hi := u)).at_
      rwa [cutV_whole hw] at this
theorem cutS_list (z : List Nat) (lo hi : Option Int) : cutS ⟨z.toArray⟩ lo hi = ⟨(cutD z lo hi).toArray⟩ := by
  unfold cutS cutD
  simp [Str.length]
theorem pd_sliceS {lo hi : Option Expr} {l u : Option Int} {p2 : Pos} {z : List Nat} (he : PD X T Δ e (.str z)) (hl : POD X T Δ lo l) (hu : POD X T Δ hi u) (hz : z.length ≤ sizeLine) : PD X T Δ (.Subscript e (.Slice lo hi none p2) pos) (.str (cutD z l u)) :=
  slice_all sl_str he hl hu fun fm L O σ H Q W x s r q =>
    ⟨_, r.str_of, by simpa [Str.length] using hz, by rw [cutS_list]; exact q _ H Gr.refl s (.str _)⟩
/-- xs[::-1] -/
theorem pr_revL {k : Nat} {p1 p2 p3 : Pos} (he : PD X T Δ e (.lst ds)) : PR X T Δ (.Subscript e (.Slice none none (some (.UnaryOp .USub (.Constant (.int 1) k p1) p2)) p3) pos) (.own (.lst ds.reverse)) :=
  .of (pe_revL canE_ok) fun fm L O σ H Q W tk s q => he.run fm L O σ H _ W tk s fun x H1 g1 s1 r1 => by
    obtain ⟨a1, vs, e1, h1, ra⟩ := r1.lst_of
    exact ⟨a1, vs, e1, .of (s1.out h1), fun p hp => (q.back s s1 g1).lst s1 ra.reverse hp⟩

/-! ### comparisons -/
def scalD : Dt → Dt → Bool
  | .non, .non => true | .bl _, .bl _ => true | .int _, .int _ => true | .str _, .str _ => true | _, _ => false
def sEq : Dt → Dt → Bool
  | .non, .non => true | .bl a, .bl b => a == b | .int a, .int b => decide (a = b) | .str a, .str b => decide (a = b) | _, _ => false
theorem pd_eqI {i j : Int} (ha : PD X T Δ a (.int i)) (hb : PD X T Δ b (.int j)) : PD X T Δ (.Compare a [.Eq] [b] pos) (.bl (decide (i = j))) :=
  pd_cmp op_eq (nomark _) ha hb fun fm L O σ H Δ Q W x y tk s r1 r2 q => by
    rw [r1.int_of, r2.int_of]
    refine ⟨rfl, q _ H Gr.refl s ?_⟩
    rw [dec_int, Bool.beq_eq_decide_eq]
    exact .bl _
theorem opd_eqI {i j : Int} : OpD X T rEq (.int i) (.int j) (.val (.bl (decide (i = j)))) := fun fm L O σ H Δ Q W x y tk s r1 r2 q => by
    rw [r1.int_of, r2.int_of]
    refine ⟨rfl, q _ H Gr.refl s ?_⟩
    rw [dec_int, Bool.beq_eq_decide_eq]
    exact .bl _
theorem opd_neI {i j : Int} : OpD X T rNe (.int i) (.int j) (.val (.bl (!decide (i = j)))) := fun fm L O σ H Δ Q W x y tk s r1 r2 q => by
    rw [r1.int_of, r2.int_of]
    refine ⟨rfl, q _ H Gr.refl s ?_⟩
    rw [dec_int, Bool.beq_eq_decide_eq]
    exact .bl _
theorem decS {i j : List Nat} : decide (V.str ⟨i.toArray⟩ = V.str ⟨j.toArray⟩) = decide (i = j) := by
  by_cases h : i = j
  · subst h; simp
  · have : ¬ (V.str ⟨i.toArray⟩ = V.str ⟨j.toArray⟩) := fun e => by
      injection e with e
      injection e with e
      exact h (by simpa using congrArg Array.toList e)
    rw [decide_eq_false h, decide_eq_false this]
theorem opd_eqS {i j : List Nat} : OpD X T rEq (.str i) (.str j) (.val (.bl (decide (i = j)))) := fun fm L O σ H Δ Q W x y tk s r1 r2 q => by
    rw [r1.str_of, r2.str_of]
    refine ⟨rfl, q _ H Gr.refl s ?_⟩
    rw [decS]
    exact .bl _
theorem opd_neS {i j : List Nat} : OpD X T rNe (.str i) (.str j) (.val (.bl (!decide (i = j)))) := fun fm L O σ H Δ Q W x y tk s r1 r2 q => by
    rw [r1.str_of, r2.str_of]
    refine ⟨rfl, q _ H Gr.refl s ?_⟩
    rw [decS]
    exact .bl _
theorem opd_eqB {i j : Bool} : OpD X T rEq (.bl i) (.bl j) (.val (.bl (i == j))) := fun fm L O σ H Δ Q W x y tk s r1 r2 q => by
    rw [r1.bl_of, r2.bl_of]
    refine ⟨rfl, q _ H Gr.refl s ?_⟩
    rw [dec_bl]
    exact .bl _
theorem opd_neB {i j : Bool} : OpD X T rNe (.bl i) (.bl j) (.val (.bl (i != j))) := fun fm L O σ H Δ Q W x y tk s r1 r2 q => by
    rw [r1.bl_of, r2.bl_of]
    refine ⟨rfl, q _ H Gr.refl s ?_⟩
    rw [dec_bl]
    exact .bl _
def isNon : Dt → Bool
  | .non => true | _ => false
/-- data of which None is told apart -/
def NonOk : Dt → Prop
  | .opq _ => False | _ => True
theorem Rp.isNon {F : Hp} {v : V} (h : Rp K F v d) (ok : NonOk d) : decide (v = .non) = isNon d := by
  cases h <;> first | rfl | exact ok.elim
theorem opd_isN (ok : NonOk d1) : OpD X T (fun x y H Q => y = .non ∧ Q (.bl (decide (x = .non))) H) d1 .non (.val (.bl (isNon d1))) := fun fm L O σ H Δ Q W x y tk s r1 r2 q =>
  ⟨r2.non_of, by rw [r1.isNon ok]; exact q _ H Gr.refl s (.bl _)⟩
theorem opd_notN (ok : NonOk d1) : OpD X T (fun x y H Q => y = .non ∧ Q (.bl (!decide (x = .non))) H) d1 .non (.val (.bl (!isNon d1))) := fun fm L O σ H Δ Q W x y tk s r1 r2 q =>
  ⟨r2.non_of, by rw [r1.isNon ok]; exact q _ H Gr.refl s (.bl _)⟩
/-- ints -/
theorem opd_cmpI {g : Int → Int → Bool} {i j : Int} : OpD X T (rI0 fun i j => .bl (g i j)) (.int i) (.int j) (.val (.bl (g i j))) := opd_I0 fun _ => .bl _

/-! ### data at any depth, == -/
/-- data of ints, truths, texts, None, tuples and lists, no deeper than n -/
def gd : Nat → Dt → Bool
  | _, .non => true
  | _, .bl _ => true
  | _, .int _ => true
  | _, .str s => s.all fun c => decide (c < 1000)
  | n + 1, .tup a => a.all (gd n)
  | n + 1, .lst a => a.all (gd n)
  | _, _ => false
def toPy : Nat → Dt → PyData
  | _, .non => .none
  | _, .bl b => .bool b
  | _, .int i => .int i
  | _, .str s => .str ⟨s.toArray⟩
  | n + 1, .tup a => .tuple (a.map (toPy n))
  | n + 1, .lst a => .list (a.map (toPy n))
  | _, _ => .none
end
theorem dpAll_of {K : PySem.W.Frag} {H : Hp} {f : Dt → PyData} : ∀ {xs : List V} {ds : List Dt}, xs.length = ds.length → (∀ (i : Nat) (x : V) (d : Dt), xs[i]? = some x → ds[i]? = some d → Dp K H x (f d)) → DpAll K H xs (ds.map f)
  | [], [], _, _ => .nil
  | [], _ :: _, h, _ => by simp at h
  | _ :: _, [], h, _ => by simp at h
  | x :: xs, d :: ds, h, k => .cons (k 0 x d rfl rfl) (dpAll_of (by simpa using h) fun i y e a b => k (i + 1) y e (by simpa using a) (by simpa using b))
theorem Rp.dp {K : PySem.W.Frag} {F H : Hp} (le : Le F H) : ∀ (n : Nat) {v : V} {d : Dt}, Rp K F v d → gd n d = true → Dp K H v (toPy n d) := by
  intro n
  induction n with
  | zero =>
    intro v d h g
    cases h with
    | non => exact .non
    | bl b => exact .bl b
    | int i => exact .int i
    | str s => exact .str _
    | _ => cases g
  | succ n ih =>
    intro v d h g
    cases h with
    | non => exact .non
    | bl b => exact .bl b
    | int i => exact .int i
    | str s => exact .str _
    | tup h hl hi =>
      have g : _ := List.all_eq_true.mp (show List.all _ (gd n) = true from g)
      exact .tup (.of (le.f _ _ h rfl)) (dpAll_of hl fun i x d a b => ih (hi i x d a b) (g d (List.mem_of_getElem? b)))
    | lst h hl hi =>
      have g : _ := List.all_eq_true.mp (show List.all _ (gd n) = true from g)
      exact .lst (.of (le.f _ _ h rfl)) (dpAll_of hl fun i x d a b => ih (hi i x d a b) (g d (List.mem_of_getElem? b)))
    | _ => cases g
theorem canAll : ∀ {ds : List PyData}, (∀ d ∈ ds, PyData.canLay0 d = true) → PyData.canLayAll0 ds = true
  | [], _ => rfl
  | d :: r, h => by
    show (PyData.canLay0 d && PyData.canLayAll0 r) = true
    rw [h d List.mem_cons_self, canAll fun e he => h e (List.mem_cons_of_mem _ he)]
    rfl
theorem depAll {n : Nat} : ∀ {ds : List PyData}, (∀ d ∈ ds, PyData.depth d ≤ n) → PyData.depthAll ds ≤ n
  | [], _ => Nat.zero_le _
  | d :: r, h => by
    show max (PyData.depth d) (PyData.depthAll r) ≤ n
    exact Nat.max_le.mpr ⟨h d List.mem_cons_self, depAll fun e he => h e (List.mem_cons_of_mem _ he)⟩
theorem strOk_of {s : List Nat} (h : (s.all fun c => decide (c < 1000)) = true) : PyData.strOk ⟨s.toArray⟩ = true := by
  show (s.toArray.all fun c => decide (c < 0x110000)) = true
  rw [List.all_toArray, List.all_eq_true]
  rw [List.all_eq_true] at h
  intro c hc
  have := of_decide_eq_true (h c hc)
  exact decide_eq_true (by omega)
theorem gd_lay : ∀ (n : Nat) {d : Dt}, gd n d = true → PyData.canLay0 (toPy n d) = true ∧ PyData.depth (toPy n d) ≤ n := by
  intro n
  induction n with
  | zero =>
    intro d g
    cases d with
    | str s => exact ⟨strOk_of g, Nat.le_refl _⟩
    | non => exact ⟨rfl, Nat.le_refl _⟩
    | bl b => exact ⟨rfl, Nat.le_refl _⟩
    | int b => exact ⟨rfl, Nat.le_refl _⟩
    | _ => cases g
  | succ n ih =>
    intro d g
    cases d with
    | str s => exact ⟨strOk_of g, Nat.zero_le _⟩
    | non => exact ⟨rfl, Nat.zero_le _⟩
    | bl b => exact ⟨rfl, Nat.zero_le _⟩
    | int b => exact ⟨rfl, Nat.zero_le _⟩
    | tup a =>
      have g : _ := List.all_eq_true.mp (show List.all _ (gd n) = true from g)
      refine ⟨canAll fun e he => ?_, Nat.succ_le_succ (depAll fun e he => ?_)⟩ <;> (obtain ⟨d, hd, rfl⟩ := List.mem_map.mp he)
      · exact (ih (g d hd)).1
      · exact (ih (g d hd)).2
    | lst a =>
      have g : _ := List.all_eq_true.mp (show List.all _ (gd n) = true from g)
      refine ⟨canAll fun e he => ?_, Nat.succ_le_succ (depAll fun e he => ?_)⟩ <;> (obtain ⟨d, hd, rfl⟩ := List.mem_map.mp he)
      · exact (ih (g d hd)).1
      · exact (ih (g d hd)).2
    | _ => cases g
theorem gd_shaped {n : Nat} (hn : n ≤ 64) {d : Dt} (g : gd n d = true) : SeqAt.shaped (toPy n d) = true := by
  obtain ⟨a, b⟩ := gd_lay n g
  show (PyData.canLay0 _ && decide (PyData.depth _ ≤ 64)) = true
  rw [a, decide_eq_true (Nat.le_trans b hn)]
  rfl
/-- == of two data -/
def deq (n : Nat) (d e : Dt) : Bool := PyData.eqv (toPy n d) (toPy n e)
theorem eqvAll_map {n : Nat} : ∀ {a b : List Dt}, PyData.eqvAll (a.map (toPy n)) (b.map (toPy n)) = (decide (a.length = b.length) && (a.zip b).all fun p => deq n p.1 p.2)
  | [], [] => rfl
  | [], _ :: _ => rfl
  | _ :: _, [] => rfl
  | x :: a, y :: b => by
    show (deq n x y && PyData.eqvAll (a.map (toPy n)) (b.map (toPy n))) = _
    rw [eqvAll_map (a := a) (b := b), List.zip_cons_cons, List.all_cons, List.length_cons, List.length_cons]
    have e : decide (a.length + 1 = b.length + 1) = decide (a.length = b.length) := by simp
    rw [e]
    cases deq n x y <;> cases decide (a.length = b.length) <;> rfl
theorem deq_refl : ∀ (n : Nat) {d : Dt}, gd n d = true → deq n d d = true := by
  intro n
  induction n with
  | zero =>
    intro d g
    cases d with
    | str s => show ((⟨s.toArray⟩ : Str) == ⟨s.toArray⟩) = true; simp
    | non => rfl
    | bl b => show (b == b) = true; simp
    | int b => show (b == b) = true; simp
    | _ => cases g
  | succ n ih =>
    have all : ∀ a : List Dt, (∀ d ∈ a, gd n d = true) → PyData.eqvAll (a.map (toPy n)) (a.map (toPy n)) = true := fun a h => by
      rw [eqvAll_map, decide_eq_true rfl, Bool.true_and, List.all_eq_true]
      intro p hp
      have hz : ∀ (a : List Dt) (p : Dt × Dt), p ∈ a.zip a → p.1 = p.2 ∧ p.1 ∈ a := by
        intro a
        induction a with
        | nil => intro p hp; simp at hp
        | cons x r ih =>
          intro p hp
          rw [List.zip_cons_cons] at hp
          rcases List.mem_cons.mp hp with z | z
          · subst z; exact ⟨rfl, List.mem_cons_self⟩
          · exact ⟨(ih p z).1, List.mem_cons_of_mem _ (ih p z).2⟩
      obtain ⟨e, m⟩ := hz a p hp
      rw [← e]
      exact ih (h p.1 m)
    intro d g
    cases d with
    | str s => show ((⟨s.toArray⟩ : Str) == ⟨s.toArray⟩) = true; simp
    | non => rfl
    | bl b => show (b == b) = true; simp
    | int b => show (b == b) = true; simp
    | tup a => exact all a (List.all_eq_true.mp (show List.all a (gd n) = true from g))
    | lst a => exact all a (List.all_eq_true.mp (show List.all a (gd n) = true from g))
    | _ => cases g
section
variable {X : Cx} {T : List Addr} {Δ : DEnv} {d1 d2 : Dt}
theorem opd_eqD {n : Nat} (hn : n ≤ 64) (g1 : gd n d1 = true) (g2 : gd n d2 = true) : OpD X T (rEqD X.K) d1 d2 (.val (.bl (deq n d1 d2))) := fun fm L O σ H Δ Q W x y tk s r1 r2 q =>
  ⟨toPy n d1, toPy n d2, r1.dp (mask_le H O) n g1, r2.dp (mask_le H O) n g2, gd_shaped hn g1, gd_shaped hn g2, q _ H Gr.refl s (.bl _)⟩
theorem opd_neD {n : Nat} (hn : n ≤ 64) (g1 : gd n d1 = true) (g2 : gd n d2 = true) : OpD X T (rNeD X.K) d1 d2 (.val (.bl (!deq n d1 d2))) := fun fm L O σ H Δ Q W x y tk s r1 r2 q =>
  ⟨toPy n d1, toPy n d2, r1.dp (mask_le H O) n g1, r2.dp (mask_le H O) n g2, gd_shaped hn g1, gd_shaped hn g2, q _ H Gr.refl s (.bl _)⟩
end
end DL

set_option Elab.async false
set_option linter.all false
set_option maxRecDepth 100000
set_option maxHeartbeats 2000000
/-! DL4: calls of built-ins and of defs; statements. -/
namespace DL
open PySem PySem.Spec L2

section
variable {X : Cx} {T : List Addr} {Δ : DEnv} {e a b c : Expr} {es : List Expr} {d d1 d2 d3 : Dt} {ds : List Dt} {r : Res} {pos p : Pos}
variable {K : PySem.W.Frag} {fm : Fm} {L : Lk} {O : List Addr} {σ : St} {H H' : Hp} {Q : VK} {W : WX}

/-! ### built-ins by name -/
def CallD (X : Cx) (T : List Addr) (rl : List V → Hp → VK → Prop) (ds : List Dt) (res : Res) : Prop := ∀ (fm : Fm) (L : Lk) (O : List Addr) (σ : St) (H : Hp) (Δ : DEnv) (Q : VK) (W : WX) (vs : List V), Takes X W → Sta X.K T fm L O σ H Δ → RpA X.K (mask H O) vs ds → RK X.K T fm L O σ H Δ Q W res → rl vs H Q
theorem pr_callB {x : Str} {id : String} {rl : List V → Hp → VK → Prop} (hc : CallR X (.builtin id) rl) (hr : CallD X T rl ds r) (hm : X.mg x = none) (hv : bootBuiltins x = some (.builtin id)) (ha : PAD X T Δ (e :: es) ds) (hg : Gl X x := by rfl) (hn : x ≠ "__name__" := by decide) (hdb : (x == ("__debug__" : Str)) = false := by decide)
    (he : starEach (e :: es) X.env = (false, eval e X.env) :: starEach es X.env := by rfl) (hpl : (backTo pos (starEach es X.env)).any (·.1) = false := by rfl) : PR X T Δ (.Call (.Name x p) (e :: es) [] pos) r :=
  .of (pe_callB hc hg hm hv canA_ok hn hdb he hpl) fun fm L O σ H Q W tk s q => ha.run fm L O σ H _ W tk s fun vs H1 g1 s1 r1 => hr fm L O σ H1 Δ Q W vs tk s1 r1 (q.back s s1 g1)
theorem pr_callT {x : Str} {id : String} {rl : List V → Hp → VK → Prop} (hc : CallR X (.type id) rl) (hr : CallD X T rl ds r) (hm : X.mg x = none) (hv : bootBuiltins x = some (.type id)) (ha : PAD X T Δ (e :: es) ds) (hg : Gl X x := by rfl) (hn : x ≠ "__name__" := by decide) (hdb : (x == ("__debug__" : Str)) = false := by decide)
    (he : starEach (e :: es) X.env = (false, eval e X.env) :: starEach es X.env := by rfl) (hpl : (backTo pos (starEach es X.env)).any (·.1) = false := by rfl) : PR X T Δ (.Call (.Name x p) (e :: es) [] pos) r :=
  .of (pe_callTy hc hg hm hv canA_ok hn hdb he hpl) fun fm L O σ H Q W tk s q => ha.run fm L O σ H _ W tk s fun vs H1 g1 s1 r1 => hr fm L O σ H1 Δ Q W vs tk s1 r1 (q.back s s1 g1)
theorem RpA.one {F : Hp} {vs : List V} (h : RpA K F vs [d]) : ∃ v, vs = [v] ∧ Rp K F v d := by
  obtain ⟨v, t, rfl, h1, h2⟩ := h.uncons
  rw [h2.unnil]
  exact ⟨v, rfl, h1⟩
theorem RpA.two {F : Hp} {vs : List V} (h : RpA K F vs [d1, d2]) : ∃ v w, vs = [v, w] ∧ Rp K F v d1 ∧ Rp K F w d2 := by
  obtain ⟨v, t, rfl, h1, h2⟩ := h.uncons
  obtain ⟨w, rfl, h3⟩ := h2.one
  exact ⟨v, w, rfl, h1, h3⟩
def dLen : Dt → Option Nat
  | .lst ds => some ds.length
  | .tup ds => some ds.length
  | .str z => some z.length
  | .scr ns => some ns.length
  | _ => none
theorem cd_len {n : Nat} (h : dLen d = some n) (ok : IxOk d) : CallD X T (fun xs H Q => ∃ x n, xs = [x] ∧ LenV X.K x H n ∧ Q (.int n) H) [d] (.val (.int n)) := fun fm L O σ H Δ Q W vs tk s ra q => by
  obtain ⟨v, rfl, rv⟩ := ra.one
  refine ⟨v, n, rfl, ?_, q _ H Gr.refl s (.int _)⟩
  cases rv with
  | tup g hl hi => cases h; exact .inr ⟨_, .of (s.out g), hl.symm⟩
  | lst g hl hi => cases h; exact .inl ⟨_, .of (s.out g), hl.symm⟩
  | str z => cases h; exact ⟨by have ok : z.length ≤ sizeLine := ok; simpa [Str.length] using ok, by simp [Str.length]⟩
  | scr g => cases h; exact .inl ⟨_, (mask_le H O).scr g, by simp⟩
  | _ => cases h
theorem pd_len {n : Nat} (hm : X.mg "len" = none) (ha : PD X T Δ e d) (h : dLen d = some n) (ok : IxOk d := by first | exact trivial | decide) (hg : Gl X "len" := by rfl)
    (he : starEach [e] X.env = (false, eval e X.env) :: starEach [] X.env := by rfl) : PD X T Δ (.Call (.Name "len" p) [e] [] pos) (.int n) :=
  pr_callB call_len (cd_len h ok) hm PySem.boot_len (pad_cons ha pad_nil he) hg (he := he)
/-- list(xs) -/
def dSeq : Dt → Option (List Dt)
  | .lst ds => some ds
  | .tup ds => some ds
  | _ => none
theorem cd_list {xs : List Dt} (h : dSeq d = some xs) : CallD X T (fun xs H Q => ∃ p ys, xs = [.ref p] ∧ (SqL X.K H p ys ∨ SqT X.K H p ys) ∧ ∀ l, H l = none → Q (.ref l) (upd H l (.lst ys))) [d] (.own (.lst xs)) := fun fm L O σ H Δ Q W vs tk s ra q => by
  obtain ⟨v, rfl, rv⟩ := ra.one
  cases rv with
  | tup g hl hi => cases h; exact ⟨_, _, rfl, .inr (.of (s.out g)), fun l hl2 => q.lst s ⟨hl, hi⟩ hl2⟩
  | lst g hl hi => cases h; exact ⟨_, _, rfl, .inl (.of (s.out g)), fun l hl2 => q.lst s ⟨hl, hi⟩ hl2⟩
  | _ => cases h
theorem pr_list {xs : List Dt} (hm : X.mg "list" = none) (ha : PD X T Δ e d) (h : dSeq d = some xs) (hg : Gl X "list" := by rfl)
    (he : starEach [e] X.env = (false, eval e X.env) :: starEach [] X.env := by rfl) : PR X T Δ (.Call (.Name "list" p) [e] [] pos) (.own (.lst xs)) :=
  pr_callT call_list_of (cd_list h) hm (by decide +kernel) (pad_cons ha pad_nil he) hg (he := he)
/-- int(n), int(flag) -/
def dInt : Dt → Option Int
  | .int i => some i
  | .bl b => some (if b then 1 else 0)
  | _ => none
theorem pd_intOf {i : Int} (hm : X.mg "int" = none) (ha : PD X T Δ e d) (h : dInt d = some i) (hg : Gl X "int" := by rfl)
    (he : starEach [e] X.env = (false, eval e X.env) :: starEach [] X.env := by rfl) : PD X T Δ (.Call (.Name "int" p) [e] [] pos) (.int i) :=
  pr_callT call_int1 (fun fm L O σ H Δ Q W vs tk s ra q => by
    obtain ⟨v, rfl, rv⟩ := ra.one
    cases rv with
    | int j => cases h; exact .inl ⟨_, rfl, q _ H Gr.refl s (.int _)⟩
    | bl k => cases h; exact .inr ⟨_, rfl, q _ H Gr.refl s (.int _)⟩
    | _ => cases h) hm (by decide +kernel) (pad_cons ha pad_nil he) hg (he := he)
/-- isinstance(x, T), T built-in -/
def tyD : Dt → Option String
  | .non => some "NoneType" | .bl _ => some "bool" | .int _ => some "int" | .str _ => some "str" | .tup _ => some "tuple" | .lst _ => some "list" | .dk _ _ => some "dict" | .dt _ _ => some "dict" | _ => none
theorem Rp.tyX {F H : Hp} {v : V} {n : String} (le : ∀ a u, F a = some u → H a = some u) (h : Rp K F v d) (hn : tyD d = some n) (hd : ∀ a o kvs, H a ≠ some (.frz o (.dT kvs))) : TyX K H v (.type n) := by
  cases h with
  | non => cases hn; exact .base .non
  | bl b => cases hn; exact .base (.bl b)
  | int i => cases hn; exact .base (.int i)
  | str s => cases hn; exact .base (.str _)
  | tup g _ _ => cases hn; exact .base (.tup (le _ _ g))
  | lst g _ _ => cases hn; exact .base (.lst (le _ _ g))
  | dk g _ _ _ =>
    cases hn
    rcases g with g | ⟨o, g⟩
    · exact .base (.dK (le _ _ g))
    · exact .fDict (le _ _ g)
  | dt g _ _ _ =>
    cases hn
    rcases g with g | ⟨o, g⟩
    · exact .base (.dT (le _ _ g))
    · exact absurd (le _ _ g) (hd _ _ _)
  | _ => cases hn
def noDt : Dt → Bool
  | .dt _ _ => false | _ => true
theorem Rp.tyX' {F H : Hp} {v : V} {n : String} (le : ∀ a u, F a = some u → H a = some u) (h : Rp K F v d) (hn : tyD d = some n) (hd : noDt d = true) : TyX K H v (.type n) := by
  cases h with
  | non => cases hn; exact .base .non
  | bl b => cases hn; exact .base (.bl b)
  | int i => cases hn; exact .base (.int i)
  | str s => cases hn; exact .base (.str _)
  | tup g _ _ => cases hn; exact .base (.tup (le _ _ g))
  | lst g _ _ => cases hn; exact .base (.lst (le _ _ g))
  | dk g _ _ _ =>
    cases hn
    rcases g with g | ⟨o, g⟩
    · exact .base (.dK (le _ _ g))
    · exact .fDict (le _ _ g)
  | dt g _ _ _ => cases hd
  | _ => cases hn
theorem pd_isi {n m : String} {k : Bool} (hm : X.mg "isinstance" = none) (ha : PD X T Δ a d) (hb : PD X T Δ b (.ty m)) (hn : tyD d = some n) (hk : kitB n m = some k) (hd : noDt d = true := by rfl) (hg : Gl X "isinstance" := by rfl)
    (he : starEach [a, b] X.env = (false, eval a X.env) :: starEach [b] X.env := by rfl) (he2 : starEach [b] X.env = (false, eval b X.env) :: starEach [] X.env := by rfl) (hpl : (backTo pos (starEach [b] X.env)).any (·.1) = false := by rfl) :
    PD X T Δ (.Call (.Name "isinstance" p) [a, b] [] pos) (.bl k) :=
  pr_callB call_isi (fun fm L O σ H Δ Q W vs tk s ra q => by
    obtain ⟨v, w, rfl, rv, rw'⟩ := ra.two
    refine ⟨v, w, .type n, .type m, k, rfl, ?_, rv.tyX' (fun a u e => s.out e) hn hd, kit_ty hk, q _ H Gr.refl s (.bl _)⟩
    rw [rw'.ty_of]
    exact .ty m) hm (by decide +kernel) (pad_cons ha (pad_cons hb pad_nil he2) he) hg (he := he) (hpl := hpl)

/-! ### texts -/
theorem join_list (l : List (List Nat)) : Txt.join ⟨#[]⟩ (l.map fun z => (⟨z.toArray⟩ : Str)) = ⟨l.flatten.toArray⟩ := by
  have e0 := PySem.StrLaws.glued_eq_join (⟨#[]⟩ : Str) (l.map fun z => (⟨z.toArray⟩ : Str))
  refine Eq.trans e0 ?_
  clear e0
  induction l with
  | nil => rfl
  | cons x r ih =>
    cases r with
    | nil => simp [Str.join]
    | cons y t =>
      show (⟨x.toArray⟩ : Str) ++ ⟨#[]⟩ ++ Str.join ⟨#[]⟩ (((y :: t) : List (List Nat)).map fun z => (⟨z.toArray⟩ : Str)) = _
      rw [ih]
      show (⟨x.toArray ++ #[] ++ (y :: t).flatten.toArray⟩ : Str) = _
      simp
/-- ''.join(xs) -/
theorem pd_join {zs : List (List Nat)} {j : Nat} {p0 apos : Pos} {x : Str} (hx : x = ⟨#[]⟩) (ha : PD X T Δ e (.lst (zs.map Dt.str))) (hz : zs.flatten.length ≤ 16777216)
    (hs : starEach [e] X.env = [(false, eval e X.env)] := by rfl) (hbase : attributeBase (.Constant (.str x) j p0) "join" X.env (eval (.Constant (.str x) j p0) X.env) = eval (.Constant (.str x) j p0) X.env := by rfl) (hline : (apos.endLine == pos.line) = true := by rfl) :
    PD X T Δ (.Call (.Attribute (.Constant (.str x) j p0) "join" apos) [e] [] pos) (.str zs.flatten) := by
  subst hx
  refine .of (pe_join (pe_str (x := ⟨#[]⟩)) canE_ok hs hbase hline) fun fm L O σ H Q W tk s q => ?_
  refine ⟨⟨_, rfl⟩, ha.run fm L O σ H _ W tk s fun v H1 g1 s1 r1 => ?_⟩
  obtain ⟨a, xs, rfl, g, ra⟩ := r1.lst_of
  have exs : xs = (zs.map fun z => (⟨z.toArray⟩ : Str)).map V.str := by
    refine List.ext_getElem? fun i => ?_
    cases hi : zs[i]? with
    | none =>
      have h1 : (zs.map Dt.str)[i]? = none := by rw [List.getElem?_map, hi]; rfl
      have h2 : xs[i]? = none := by
        rw [List.getElem?_eq_none_iff] at h1 ⊢
        rw [ra.len]; exact h1
      rw [h2, List.getElem?_map, List.getElem?_map, hi]; rfl
    | some z =>
      obtain ⟨v, e1, rv⟩ := ra.get (d := .str z) (by rw [List.getElem?_map, hi]; rfl)
      rw [e1, rv.str_of, List.getElem?_map, List.getElem?_map, hi]; rfl
  subst exs
  refine ⟨⟨#[]⟩, a, _, rfl, rfl, .inl (.of (s1.out g)), ?_, ?_⟩
  · show _ + _ * 0 ≤ _
    rw [Nat.mul_zero, Nat.add_zero, List.map_map]
    have : (List.map ((fun x => x.length) ∘ fun z => (⟨z.toArray⟩ : Str)) zs).sum = zs.flatten.length := by
      rw [List.length_flatten]
      congr 1
    rw [this]; exact hz
  · rw [join_list]
    exact q _ H1 g1 s1 (.str _)
/-- x.startswith(y) -/
def startsD (x y : List Nat) : Bool := decide (x.take y.length = y)
theorem starts_list (x y : List Nat) : Txt.startswith ⟨x.toArray⟩ ⟨y.toArray⟩ = startsD x y := by
  unfold Txt.startswith Builtin.Str.subAt startsD
  rw [Bool.eq_iff_iff]
  simp only [Str.length, List.size_toArray, Nat.zero_add, Bool.and_eq_true, decide_eq_true_eq, List.extract_toArray, beq_iff_eq, Array.mk.injEq, List.extract_eq_drop_take, List.drop_zero, Nat.sub_zero]
  constructor
  · exact fun h => by simpa using h.2
  · intro h
    refine ⟨?_, by simpa using h⟩
    have := congrArg List.length h
    rw [List.length_take] at this
    omega
theorem pd_starts {x y : List Nat} {apos : Pos} (ha : PD X T Δ a (.str x)) (hb : PD X T Δ b (.str y)) (hs : starEach [b] X.env = [(false, eval b X.env)] := by rfl) (hbase : attributeBase a "startswith" X.env (eval a X.env) = eval a X.env := by rfl) (hline : (apos.endLine == pos.line) = true := by rfl) :
    PD X T Δ (.Call (.Attribute a "startswith" apos) [b] [] pos) (.bl (startsD x y)) :=
  .of (pe_m1 F.slot_str_startswith F.type_str_startswith mt_startswith canE_ok canE_ok hs hbase hline) fun fm L O σ H Q W tk s q => ha.run fm L O σ H _ W tk s fun v H1 g1 s1 r1 => ⟨⟨_, r1.str_of⟩, hb.run fm L O σ H1 _ W tk s1 fun w H2 g2 s2 r2 =>
    ⟨_, _, r1.str_of, (by have e := r2.str_of; subst e; rfl), by rw [starts_list]; exact q _ H2 (g1.trans g2) s2 (.bl _)⟩⟩

/-! ### tests, and, or, not -/
theorem ptd_val {k : Bool} (h : PD X T Δ e (.bl k)) (he : ∀ whole, isTrue e X.env whole = (do let v ← whole; standAt e.pos; holding [v] (truthy v)) := by intro _; rfl) : PTD X T Δ e k :=
  .of (pt_val canE_ok he) fun fm L O σ H Q W tk s q => h.run fm L O σ H _ W tk s fun v H2 g2 s2 r2 => ⟨k, r2.bl_of, q H2 g2 s2⟩
theorem ptd_not {k : Bool} (h : PTD X T Δ a k) : PTD X T Δ (.UnaryOp .Not a pos) (!k) :=
  .of (pt_not canT_ok) fun fm L O σ H Q W tk s q => h.run fm L O σ H _ W tk s q
theorem pwd_and1 {k : Bool} (h : PTD X T Δ a k) : PWD X T Δ (.BoolOp .And [a] pos) k := .of (pw_and1 canT_ok) fun fm L O σ H Q W tk s q => h.run fm L O σ H _ W tk s q
theorem pwd_or1 {k : Bool} (h : PTD X T Δ a k) : PWD X T Δ (.BoolOp .Or [a] pos) k := .of (pw_or1 canT_ok) fun fm L O σ H Q W tk s q => h.run fm L O σ H _ W tk s q
theorem pwd_and {k l : Bool} (h1 : PTD X T Δ a k) (h2 : k = true → PWD X T Δ (.BoolOp .And (b :: es) pos) l) : PWD X T Δ (.BoolOp .And (a :: b :: es) pos) (k && l) :=
  .of (pw_and canT_ok canW_ok) fun fm L O σ H Q W tk s q => h1.run fm L O σ H _ W tk s fun H2 g2 s2 => by
    cases k with
    | true =>
      show canW X _ σ H2 Q
      exact (h2 rfl).run fm L O σ H2 Q W tk s2 fun H3 g3 s3 => q H3 (g2.trans g3) s3
    | false => exact q H2 g2 s2
theorem pwd_or {k l : Bool} (h1 : PTD X T Δ a k) (h2 : k = false → PWD X T Δ (.BoolOp .Or (b :: es) pos) l) : PWD X T Δ (.BoolOp .Or (a :: b :: es) pos) (k || l) :=
  .of (pw_or canT_ok canW_ok) fun fm L O σ H Q W tk s q => h1.run fm L O σ H _ W tk s fun H2 g2 s2 => by
    cases k with
    | true => exact q H2 g2 s2
    | false =>
      show canW X _ σ H2 Q
      exact (h2 rfl).run fm L O σ H2 Q W tk s2 fun H3 g3 s3 => q H3 (g2.trans g3) s3
/-- as values -/
theorem pd_one {op} (h : PD X T Δ a d) : PD X T Δ (.BoolOp op [a] pos) d := .of (pe_one canE_ok) fun fm L O σ H Q W tk s q => h.run fm L O σ H _ W tk s q
theorem pd_and {k l : Bool} (h1 : PD X T Δ a (.bl k)) (h2 : k = true → PD X T Δ (.BoolOp .And (b :: es) pos) (.bl l)) : PD X T Δ (.BoolOp .And (a :: b :: es) pos) (.bl (k && l)) :=
  .of (pe_and canE_ok canE_ok) fun fm L O σ H Q W tk s q => h1.run fm L O σ H _ W tk s fun v H2 g2 s2 r2 => ⟨k, r2.bl_of, by
    cases k with
    | true =>
      show canE X _ σ H2 Q
      exact (h2 rfl).run fm L O σ H2 Q W tk s2 fun v H3 g3 s3 r3 => q v H3 (g2.trans g3) s3 r3
    | false => exact q _ H2 g2 s2 (.bl false)⟩
theorem pd_or {k l : Bool} (h1 : PD X T Δ a (.bl k)) (h2 : k = false → PD X T Δ (.BoolOp .Or (b :: es) pos) (.bl l)) : PD X T Δ (.BoolOp .Or (a :: b :: es) pos) (.bl (k || l)) :=
  .of (pe_or canE_ok canE_ok) fun fm L O σ H Q W tk s q => h1.run fm L O σ H _ W tk s fun v H2 g2 s2 r2 => ⟨k, r2.bl_of, by
    cases k with
    | true => exact q _ H2 g2 s2 (.bl true)
    | false =>
      show canE X _ σ H2 Q
      exact (h2 rfl).run fm L O σ H2 Q W tk s2 fun v H3 g3 s3 r3 => q v H3 (g2.trans g3) s3 r3⟩
theorem pd_not {k : Bool} (h1 : PD X T Δ a (.bl k)) : PD X T Δ (.UnaryOp .Not a pos) (.bl (!k)) :=
  .of (pe_not canE_ok) fun fm L O σ H Q W tk s q => h1.run fm L O σ H _ W tk s fun v H2 g2 s2 r2 => ⟨k, r2.bl_of, q _ H2 g2 s2 (.bl _)⟩
theorem pd_if {k : Bool} (h : PTD X T Δ c k) (h1 : k = true → PD X T Δ a d) (h2 : k = false → PD X T Δ b d) : PD X T Δ (.IfExp c a b pos) d :=
  .of (pe_ifExp canT_ok canE_ok canE_ok) fun fm L O σ H Q W tk s q => h.run fm L O σ H _ W tk s fun H2 g2 s2 => by
    cases k with
    | true =>
      show canE X _ σ H2 Q
      exact (h1 rfl).run fm L O σ H2 Q W tk s2 fun v H3 g3 s3 r3 => q v H3 (g2.trans g3) s3 r3
    | false =>
      show canE X _ σ H2 Q
      exact (h2 rfl).run fm L O σ H2 Q W tk s2 fun v H3 g3 s3 r3 => q v H3 (g2.trans g3) s3 r3

/-! ### a def's promise -/
def TabOk (T : List Addr) (H : Hp) : Prop := ∀ P ∈ T, GxR.TabG H P
structure Pre (T O : List Addr) (H : Hp) : Prop where
  tO : ∀ P ∈ T, P ∈ O
  tab : TabOk T H
  dom : ∀ l ∈ O, Held H l
/-- what is wanted of a call's end -/
def CK (K : PySem.W.Frag) (T O : List Addr) (H : Hp) (Q : VK) (E : XK) : Res → Prop
  | .val d => ∀ v H2, Gr T H H2 → TabOk T H2 → Rp K (mask H2 O) v d → Q v H2
  | .own o => ∀ p H2, H p = none → Gr T H H2 → TabOk T H2 → OwAt K (mask H2 (p :: O)) H2 p o → Q (.ref p) H2
  | .exc C => ∀ H2, Gr T H H2 → TabOk T H2 → E (.ref C) none H2
def spF (T : List Addr) (K : PySem.W.Frag) (n : Nat) (Fn : List Dt → Res → Prop) : Sp := fun vs H Q E => vs.length = n ∧ ∃ O ds r, Pre T O H ∧ RpA K (mask H O) vs ds ∧ Fn ds r ∧ CK K T O H Q E r
theorem spF.len {n : Nat} {Fn : List Dt → Res → Prop} (vs : List V) (H : Hp) (Q : VK) (E : XK) (h : spF T K n Fn vs H Q E) : vs.length = n := h.1
theorem Sta.own_hide {p : Addr} (s : Sta K T fm L O σ H Δ) (hp : H p = none) (g : Gr T H H') (ht : TabOk T H') (hp' : Held H' p) : Sta K T fm L (p :: O) σ H' Δ := by
  have s1 := s.gr g ht
  obtain ⟨a1, a2, a3, a4⟩ := s.new_apart hp
  have le : Le (mask H O) (mask H' (p :: O)) := Le.of_same fun a o e => by
    obtain ⟨e1, e2⟩ := mask_some e
    rw [mask_out fun z => ?_]
    · exact g a o (fun z => e2 (s.tO a z)) e1
    · rcases List.mem_cons.mp z with z | z
      · rw [z, hp] at e1; cases e1
      · exact e2 z
  refine ⟨fun P hP => List.mem_cons_of_mem _ (s.tO P hP), ht, fun l hl => ?_, fun l hl => List.mem_cons_of_mem _ (s.o0 l hl), s.b0, s.d0, fun q hq => (s.pin q hq).mono le, s1.keep, s1.lock, s.len, fun i e he => ?_, s.own, s.sep⟩
  · rcases List.mem_cons.mp hl with z | z
    · rw [z]; exact hp'
    · exact s1.dom l z
  · obtain ⟨v, h1, h2⟩ := s.slot i e he
    refine ⟨v, h1, ?_⟩
    cases e with
    | imm d => exact Rp.mono le h2
    | own l br o =>
      obtain ⟨q1, q2, q3⟩ := h2
      exact ⟨q1, List.mem_cons_of_mem _ q2, q3.mono le fun u hu => g l u (s.own i l br o he).1 hu⟩
theorem CK.of (s : Sta X.K T fm L O σ H Δ) (q : RK X.K T fm L O σ H Δ Q W r) : CK X.K T O H Q (WE W σ) r := by
  cases r with
  | val d => exact fun v H2 g t rv => q v H2 g (s.gr g t) rv
  | own o => exact fun p H2 hp g t ow => q p H2 hp g (s.own_hide hp g t ow.held) ow
  | exc C => exact fun H2 g t => q H2 g (s.gr g t)
theorem Sta.pre (s : Sta K T fm L O σ H Δ) : Pre T O H := ⟨s.tO, s.tab, s.dom⟩
abbrev FnD (P : Program) (w : World) (K : PySem.W.Frag) (mg : Str → Option Value) (base : Heap) (T : List Addr) (k : Nat) (f : Addr) (fd : FuncData) (ps : List Str) (Fn : List Dt → Res → Prop) : Prop := FnOk P w K mg base (L2.CX P w) k f fd ps (spF T K ps.length Fn)
theorem pr_call {x : Str} {f : Addr} {fd : FuncData} {ps : List Str} {k : Nat} {Fn : List Dt → Res → Prop} (G : FnD X.prog X.w X.K X.mg X.base T k f fd ps Fn) (hr : Room k X.A) (hm : X.mg x = some (.ref f)) (hk : PySem.W.keepIn X.K (.ref f) = true) (hb : Binds X.K fd ps [])
    (ha : PAD X T Δ (e :: es) ds) (hF : Fn ds r) (hlen : ds.length = ps.length := by rfl) (hg : Gl X x := by rfl) (hdb : (x == ("__debug__" : Str)) = false := by decide) (he : starEach (e :: es) X.env = (false, eval e X.env) :: starEach es X.env := by rfl) (hpl : (backTo pos (starEach es X.env)).any (·.1) = false := by rfl) :
    PR X T Δ (.Call (.Name x p) (e :: es) [] pos) r :=
  ⟨fun fm L O σ H Q W tk s q pins sh I => (pe_callS (E := WE W) G hr hg hm hk hb (fun σ => passAt tk σ) canA_ok hdb he hpl).run pins sh σ H Q I (ha.run fm L O σ H _ W tk s fun vs H1 g1 s1 r1 =>
    ⟨by rw [r1.len]; exact hlen, O, ds, r, s1.pre, r1, hF, CK.of s1 (q.back s s1 g1)⟩)⟩
end
end DL

set_option Elab.async false
set_option linter.all false
set_option maxRecDepth 100000
set_option maxHeartbeats 2000000
/-! DL5: statements, loops, comprehensions, a def by its body. -/
namespace DL
open PySem PySem.Spec L2

/-- what is wanted behind a statement, in data -/
structure DE where
  nx : DEnv → Prop := fun _ => False
  rt : DEnv → Dt → Prop := fun _ _ => False
  ro : DEnv → Ow → Prop := fun _ _ => False
  bk : DEnv → Prop := fun _ => False
  ct : DEnv → Prop := fun _ => False
  ex : DEnv → Addr → Prop := fun _ _ => False
structure Emb (K : PySem.W.Frag) (T : List Addr) (fm : Fm) (L : Lk) (P : DE) (D : Ends) (W : WX) : Prop where
  nx : ∀ (O : List Addr) (σ : St) (H : Hp) (Δ : DEnv), P.nx Δ → Sta K T fm L O σ H Δ → D.nx σ H
  rt : ∀ (O : List Addr) (σ : St) (H : Hp) (Δ : DEnv) (v : V) (d : Dt), P.rt Δ d → Sta K T fm L O σ H Δ → Rp K (mask H O) v d → D.rt v H
  ro : ∀ (O : List Addr) (σ : St) (H : Hp) (Δ : DEnv) (l : Addr) (o : Ow), P.ro Δ o → Sta K T fm L O σ H Δ → l ∈ O → fm.H0 l = none → OwAt K (mask H O) H l o → D.rt (.ref l) H
  bk : ∀ (O : List Addr) (σ : St) (H : Hp) (Δ : DEnv), P.bk Δ → Sta K T fm L O σ H Δ → D.bk σ H
  ct : ∀ (O : List Addr) (σ : St) (H : Hp) (Δ : DEnv), P.ct Δ → Sta K T fm L O σ H Δ → D.ct σ H
  ex : ∀ (O : List Addr) (σ : St) (H : Hp) (Δ : DEnv) (C : Addr), P.ex Δ C → Sta K T fm L O σ H Δ → W (.ref C) none σ H
structure PSsD (X : Cx) (T : List Addr) (Δ : DEnv) (sts : List Stmt) (P : DE) : Prop where
  run : ∀ (fm : Fm) (L : Lk) (O : List Addr) (σ : St) (H : Hp) (D : Ends) (W : WX), Takes X W → Sta X.K T fm L O σ H Δ → Emb X.K T fm L P D W → canSs X sts D σ H
structure PSD (X : Cx) (T : List Addr) (Δ : DEnv) (st : Stmt) (P : DE) : Prop where
  run : ∀ (fm : Fm) (L : Lk) (O : List Addr) (σ : St) (H : Hp) (D : Ends) (W : WX), Takes X W → Sta X.K T fm L O σ H Δ → Emb X.K T fm L P D W → canS X st D σ H

section
variable {X : Cx} {T : List Addr} {Δ : DEnv} {e a b c : Expr} {es : List Expr} {d d1 d2 d3 : Dt} {ds : List Dt} {r : Res} {pos p : Pos} {st : Stmt} {rest sts : List Stmt} {P : DE}
variable {K : PySem.W.Frag} {fm : Fm} {L : Lk} {O : List Addr} {σ : St} {H H' : Hp} {Q : VK} {W : WX} {D : Ends}

theorem PSsD.of {t : TS} (h : PSs X sts t) (k : ∀ (fm : Fm) (L : Lk) (O : List Addr) (σ : St) (H : Hp) (D : Ends) (W : WX), Takes X W → Sta X.K T fm L O σ H Δ → Emb X.K T fm L P D W → t D σ H) : PSsD X T Δ sts P :=
  ⟨fun fm L O σ H D W tk s em pins sh I => h.run pins sh σ H D I (k fm L O σ H D W tk s em)⟩
theorem PSD.of {t : TS} (h : PS X st t) (k : ∀ (fm : Fm) (L : Lk) (O : List Addr) (σ : St) (H : Hp) (D : Ends) (W : WX), Takes X W → Sta X.K T fm L O σ H Δ → Emb X.K T fm L P D W → t D σ H) : PSD X T Δ st P :=
  ⟨fun fm L O σ H D W tk s em pins sh I => h.run pins sh σ H D I (k fm L O σ H D W tk s em)⟩
/-- the rest as what follows -/
abbrev DE.then (P : DE) (X : Cx) (T : List Addr) (rest : List Stmt) : DE := { P with nx := fun Δ' => PSsD X T Δ' rest P }
theorem Emb.then (em : Emb X.K T fm L P D W) (tk : Takes X W) : Emb X.K T fm L (P.then X T rest) { D with nx := canSs X rest D } W :=
  ⟨fun O σ H Δ h s => h.run fm L O σ H D W tk s em, em.rt, em.ro, em.bk, em.ct, em.ex⟩
theorem psd_nil (h : P.nx Δ) : PSsD X T Δ [] P := .of pss_nil fun fm L O σ H D W tk s em => em.nx O σ H Δ h s
theorem psd_cons (h : PSD X T Δ st (P.then X T rest)) : PSsD X T Δ (st :: rest) P :=
  .of (pss_cons canS_ok canSs_ok) fun fm L O σ H D W tk s em => h.run fm L O σ H { D with nx := canSs X rest D } W tk s (em.then tk)
theorem psd_one (h : PSD X T Δ st P) : PSsD X T Δ [st] P := .of (pss_one canS_ok) fun fm L O σ H D W tk s em => h.run fm L O σ H D W tk s em
/-- weaker ends -/
theorem PSsD.imp {P' : DE} (h : PSsD X T Δ sts P') (nx : ∀ Δ, P'.nx Δ → P.nx Δ := by intro _ h; exact h) (rt : ∀ Δ d, P'.rt Δ d → P.rt Δ d := by intro _ _ h; exact h) (ro : ∀ Δ o, P'.ro Δ o → P.ro Δ o := by intro _ _ h; exact h) (bk : ∀ Δ, P'.bk Δ → P.bk Δ := by intro _ h; exact h)
    (ct : ∀ Δ, P'.ct Δ → P.ct Δ := by intro _ h; exact h) (ex : ∀ Δ C, P'.ex Δ C → P.ex Δ C := by intro _ _ h; exact h) : PSsD X T Δ sts P :=
  ⟨fun fm L O σ H D W tk s em => h.run fm L O σ H D W tk s ⟨fun O σ H Δ h => em.nx O σ H Δ (nx Δ h), fun O σ H Δ v d h => em.rt O σ H Δ v d (rt Δ d h), fun O σ H Δ l o h => em.ro O σ H Δ l o (ro Δ o h), fun O σ H Δ h => em.bk O σ H Δ (bk Δ h), fun O σ H Δ h => em.ct O σ H Δ (ct Δ h), fun O σ H Δ C h => em.ex O σ H Δ C (ex Δ C h)⟩⟩

/-! ### targets -/
def canG (X : Cx) (tg : Expr) : TG := fun v σ H Q => ∀ pins s u, Inv X pins σ H s → RelV v u → wpAny (model X.prog X.w) X.A (assign tg X.env u) (fun _ s' => ∃ σ' H', Inv X pins σ' H' s' ∧ Q σ' H') X.xe s
theorem canG_ok {tg : Expr} : PG X tg (canG X tg) := ⟨fun pins s _ _ _ u _ I r h => h pins s u I r⟩
/-- js: the slots that are stored -/
structure But (js : List Nat) (σ σ' : St) : Prop where
  len : σ'.length = σ.length
  at_ : ∀ i, i ∉ js → σ'[i]? = σ[i]?
structure GD (X : Cx) (T : List Addr) (tg : Expr) (d : Dt) (js : List Nat) (Δ Δ' : DEnv) : Prop where
  run : ∀ (fm : Fm) (L : Lk) (O : List Addr) (σ : St) (H : Hp) (v : V) (Q : St → Hp → Prop), Sta X.K T fm L O σ H Δ → Rp X.K (mask H O) v d → (∀ σ', Sta X.K T fm L O σ' H Δ' → But js σ σ' → Q σ' H) → canG X tg v σ H Q
theorem gd_name (i : Nat) {x : Str} (hN : X.N.Nodup) (hl : i < Δ.length := by exact of_decide_eq_true rfl) (hi : X.N[i]? = some x := by rfl) (hx : Loc X.env.scope x := by first | exact Or.inl rfl | exact Or.inr rfl) (hf : X.fn x = true ∨ X.env.scope.names.lookup x = some .local := by first | exact .inl rfl | exact .inr rfl) : GD X T (.Name x pos) d [i] Δ (Δ.set i (some (.imm d))) :=
  ⟨fun fm L O σ H v Q s r k pins sh u I ru => (pg_name hN hi hx hf).run pins sh σ H v u Q I ru (k _ (s.set hl r) ⟨List.length_set, fun j hj => getset_ne fun z => hj (by rw [z]; exact List.mem_singleton.mpr rfl)⟩)⟩
structure GDs (X : Cx) (T : List Addr) (ts : List Expr) (ds : List Dt) (js : List Nat) (Δ Δ' : DEnv) : Prop where
  ex : ∃ t, PGs X ts t ∧ ∀ (fm : Fm) (L : Lk) (O : List Addr) (σ : St) (H : Hp) (vs : List V) (Q : St → Hp → Prop), Sta X.K T fm L O σ H Δ → RpA X.K (mask H O) vs ds → (∀ σ', Sta X.K T fm L O σ' H Δ' → But js σ σ' → Q σ' H) → t vs σ H Q
theorem gds_nil : GDs X T [] [] [] Δ Δ := ⟨_, pgs_nil, fun fm L O σ H vs Q s r k => ⟨r.unnil, k σ s ⟨rfl, fun _ _ => rfl⟩⟩⟩
theorem gds_cons {tg : Expr} {ts : List Expr} {js ks : List Nat} {Δ1 Δ2 : DEnv} (h1 : GD X T tg d js Δ Δ1) (h2 : GDs X T ts ds ks Δ1 Δ2) (h3 : (assignEach (tg :: ts) X.env).map (·.2) = assign tg X.env :: (assignEach ts X.env).map (·.2) := by rfl) : GDs X T (tg :: ts) (d :: ds) (js ++ ks) Δ Δ2 := by
  obtain ⟨t, ht, hk⟩ := h2.ex
  refine ⟨_, pgs_cons canG_ok ht h3, fun fm L O σ H vs Q s r k => ?_⟩
  obtain ⟨v, rr, rfl, r1, r2⟩ := r.uncons
  exact ⟨v, rr, rfl, h1.run fm L O σ H v _ s r1 fun σ1 s1 n1 => hk fm L O σ1 H rr Q s1 r2 fun σ2 s2 n2 => k σ2 s2 ⟨n2.len.trans n1.len, fun i hi => (n2.at_ i fun z => hi (List.mem_append_right _ z)).trans (n1.at_ i fun z => hi (List.mem_append_left _ z))⟩⟩
theorem gd_tup {ts : List Expr} {js : List Nat} {Δ' : DEnv} {kk : Nat} (hc : X.calm = true) (h : GDs X T ts ds js Δ Δ') (hn : (assignEach ts X.env).length = ds.length := by rfl) (hst : (assignEach ts X.env).findIdx? (·.1) = none := by rfl) : GD X T (.Tuple ts kk pos) (.tup ds) js Δ Δ' := by
  obtain ⟨t, ht, hk⟩ := h.ex
  refine ⟨fun fm L O σ H v Q s r k pins sh u I ru => (pg_tup hc ht hn hst).run pins sh σ H v u Q I ru ?_⟩
  obtain ⟨a, xs, rfl, g, ra⟩ := r.tup_of
  exact ⟨a, xs, rfl, .of (s.out g), ra.len, hk fm L O σ H xs Q s ra k⟩

/-! ### small statements -/
/-- target = e -/
theorem psd_asg {tg : Expr} {js : List Nat} {Δ' : DEnv} (he : PD X T Δ e d) (hg : GD X T tg d js Δ Δ') (h : P.nx Δ') (hs : swapsWithSole [tg] e pos.line X.env = pure false := by rfl) (hw : swappedStores [tg] e X.env = pure none := by rfl) (h1 : (assignEach [tg] X.env).map (·.2) = [assign tg X.env] := by rfl) : PSD X T Δ (.Assign [tg] e pos) P :=
  .of (ps_asg canE_ok canG_ok hs hw h1) fun fm L O σ H D W tk s em => he.run fm L O σ H _ W tk s fun v H1 g1 s1 r1 => hg.run fm L O σ H1 v _ s1 r1 fun σ' s2 _ => em.nx O σ' H1 Δ' h s2
theorem psd_set (i : Nat) {x : Str} {pos' : Pos} (hN : X.N.Nodup) (he : PD X T Δ e d) (h : P.nx (Δ.set i (some (.imm d)))) (hl : i < Δ.length := by exact of_decide_eq_true rfl) (hi : X.N[i]? = some x := by rfl) (hx : Loc X.env.scope x := by first | exact Or.inl rfl | exact Or.inr rfl)
    (hs : swapsWith e (some (.Name x pos')) pos.line X.env = pure false := by rfl) (hf : X.fn x = true ∨ X.env.scope.names.lookup x = some .local := by first | exact .inl rfl | exact .inr rfl) : PSD X T Δ (.Assign [.Name x pos'] e pos) P :=
  .of (ps_set hN hi hx canE_ok hs hf) fun fm L O σ H D W tk s em => he.run fm L O σ H _ W tk s fun v H1 g1 s1 r1 => em.nx O _ H1 _ h (s1.set hl r1)
/-- x = a new thing of one's own -/
theorem Sta.own_set {i : Nat} {p : Addr} {o : Ow} (s0 : Sta K T fm L O σ H Δ) (hp : H p = none) (s : Sta K T fm L (p :: O) σ H' Δ) (hi : i < Δ.length) (ow : OwAt K (mask H' (p :: O)) H' p o) : Sta K T fm L (p :: O) (σ.set i (some (.ref p))) H' (Δ.set i (some (.own p false o))) := by
  obtain ⟨a1, a2, a3, a4⟩ := s0.new_apart hp
  refine ⟨s.tO, s.tab, s.dom, s.o0, s.b0, s.d0, s.pin, s.keep, s.lock, by rw [List.length_set, List.length_set, s.len], fun j e he => ?_, fun j l br o' he => ?_, fun j k l br br' o1 o2 h1 h2 => ?_⟩
  · by_cases hj : i = j
    · subst hj
      rw [List.getElem?_set_self hi] at he
      cases he
      exact ⟨.ref p, by rw [List.getElem?_set_self (by rw [s.len]; exact hi)], rfl, List.mem_cons_self, ow⟩
    · rw [getset_ne hj] at he ⊢
      exact s.slot j e he
  · by_cases hj : i = j
    · subst hj
      rw [List.getElem?_set_self hi] at he
      cases he
      refine ⟨a3, fun q hq z => ?_, s0.fresh0 hp⟩
      have := s0.lock q hq
      rw [z, hp] at this; cases this
    · rw [getset_ne hj] at he
      exact s.own j l br o' he
  · by_cases hj : i = j
    · subst hj
      rw [List.getElem?_set_self hi] at h1
      cases h1
      by_cases hk : i = k
      · exact hk
      · rw [getset_ne hk] at h2
        exact absurd rfl (a4 k p br' o2 h2)
    · rw [getset_ne hj] at h1
      by_cases hk : i = k
      · subst hk
        rw [List.getElem?_set_self hi] at h2
        cases h2
        exact absurd rfl (a4 j p br o1 h1)
      · rw [getset_ne hk] at h2
        exact s.sep j k l br br' o1 o2 h1 h2
theorem psd_setO (i : Nat) {x : Str} {pos' : Pos} {o : Ow} (hN : X.N.Nodup) (he : PR X T Δ e (.own o)) (h : ∀ l, P.nx (Δ.set i (some (.own l false o)))) (hl : i < Δ.length := by exact of_decide_eq_true rfl) (hi : X.N[i]? = some x := by rfl) (hx : Loc X.env.scope x := by first | exact Or.inl rfl | exact Or.inr rfl)
    (hs : swapsWith e (some (.Name x pos')) pos.line X.env = pure false := by rfl) (hf : X.fn x = true ∨ X.env.scope.names.lookup x = some .local := by first | exact .inl rfl | exact .inr rfl) : PSD X T Δ (.Assign [.Name x pos'] e pos) P :=
  .of (ps_set hN hi hx canE_ok hs hf) fun fm L O σ H D W tk s em => he.run fm L O σ H _ W tk s fun p H1 hp g1 s1 ow => em.nx (p :: O) _ H1 _ (h p) (s.own_set hp s1 hl ow)
/-- an expression alone -/
theorem psd_expr (he : PD X T Δ e d) (h : P.nx Δ) (hs : swapsWith e none pos.line X.env = pure false := by rfl) : PSD X T Δ (.Expr e pos) P :=
  .of (ps_expr canE_ok hs) fun fm L O σ H D W tk s em => he.run fm L O σ H _ W tk s fun v H1 g1 s1 r1 => em.nx O σ H1 Δ h s1
theorem psd_pass (h : P.nx Δ) : PSD X T Δ (.Pass pos) P := .of ps_pass fun fm L O σ H D W tk s em => em.nx O σ H Δ h s
theorem psd_ret (he : PD X T Δ e d) (h : P.rt Δ d) : PSD X T Δ (.Return (some e) pos) P :=
  .of (ps_ret canE_ok) fun fm L O σ H D W tk s em => he.run fm L O σ H _ W tk s fun v H1 g1 s1 r1 => em.rt O σ H1 Δ v d h s1 r1
theorem psd_retO {o : Ow} (he : PR X T Δ e (.own o)) (h : P.ro Δ o) : PSD X T Δ (.Return (some e) pos) P :=
  .of (ps_ret canE_ok) fun fm L O σ H D W tk s em => he.run fm L O σ H _ W tk s fun p H1 hp g1 s1 ow => em.ro (p :: O) σ H1 Δ p o h s1 List.mem_cons_self (s.fresh0 hp) ow
/-- return x, x one's own -/
theorem psd_retV (i : Nat) {x : Str} {pos' : Pos} {l : Addr} {o : Ow} (hi : Δ[i]? = some (some (.own l false o))) (h : P.ro Δ o) (hN : X.N[i]? = some x := by rfl) (hv : Vis X.env.scope x := by first | exact Or.inl rfl | exact Or.inr (Or.inl rfl) | exact Or.inr (Or.inr rfl))
    (hd : (x == ("__debug__" : Str)) = false := by decide) (hcd : (x == ("__classdict__" : Str)) = false := by decide) : PSD X T Δ (.Return (some (.Name x pos')) pos) P :=
  .of (ps_ret (pe_var hN hv hd hcd)) fun fm L O σ H D W tk s em => by
    obtain ⟨h1, h2, h3⟩ := s.ow hi
    exact ⟨.ref l, h1, em.ro O σ H Δ l o h s h2 (s.own i l false o hi).2.2 h3⟩
theorem psd_if {k : Bool} {A B : List Stmt} (hc : PTD X T Δ c k) (h1 : k = true → PSsD X T Δ A P) (h2 : k = false → PSsD X T Δ B P) : PSD X T Δ (.If c A B pos) P :=
  .of (ps_if canT_ok canSs_ok canSs_ok) fun fm L O σ H D W tk s em => hc.run fm L O σ H _ W tk s fun H1 g1 s1 => by
    cases k with
    | true =>
      show canSs X A D σ H1
      exact (h1 rfl).run fm L O σ H1 D W tk s1 em
    | false =>
      show canSs X B D σ H1
      exact (h2 rfl).run fm L O σ H1 D W tk s1 em
/-- one's own is frozen -/
theorem psd_freeze (i : Nat) {l : Addr} {o : Ow} (hi : Δ[i]? = some (some (.own l false o))) (h : PSsD X T (Δ.set i (some (.imm o.d))) sts P) : PSsD X T Δ sts P :=
  ⟨fun fm L O σ H D W tk s em => by
    obtain ⟨h1, h2, h3⟩ := s.ow hi
    exact h.run fm L _ σ H D W tk (s.freeze hi fun F hF le => h3.rp (mask_le H O) (fun _ => trivial) hF le) em⟩
/-- an exception comes of an expression -/
theorem psd_exprX {C : Addr} (he : PR X T Δ e (.exc C)) (h : P.ex Δ C) (hs : swapsWith e none pos.line X.env = pure false := by rfl) : PSD X T Δ (.Expr e pos) P :=
  .of (ps_expr canE_ok hs) fun fm L O σ H D W tk s em => he.run fm L O σ H _ W tk s fun H1 g1 s1 => em.ex O σ H1 Δ C h s1

/-! ### a list of one's own -/
theorem slot_ref (i : Nat) {x : Str} {pos' : Pos} (hN : X.N[i]? = some x := by rfl) (hv : Vis X.env.scope x := by first | exact Or.inl rfl | exact Or.inr (Or.inl rfl) | exact Or.inr (Or.inr rfl)) (hd : (x == ("__debug__" : Str)) = false := by decide) (hcd : (x == ("__classdict__" : Str)) = false := by decide) : PE X (.Name x pos') (tVar i) := pe_var hN hv hd hcd
/-- xs.append(e) -/
theorem psd_append (i : Nat) {x : Str} {p1 apos : Pos} {l : Addr} {br : Bool} {xs : List Dt} (hi : Δ[i]? = some (some (.own l br (.lst xs)))) (he : PD X T Δ e d) (hz : xs.length < sizeLine) (h : P.nx (Δ.set i (some (.own l br (.lst (xs ++ [d])))))) (hN : X.N[i]? = some x := by rfl) (hv : Vis X.env.scope x := by first | exact Or.inl rfl | exact Or.inr (Or.inl rfl) | exact Or.inr (Or.inr rfl))
    (hd : (x == ("__debug__" : Str)) = false := by decide) (hcd : (x == ("__classdict__" : Str)) = false := by decide) (hs : starEach [e] X.env = (false, eval e X.env) :: starEach [] X.env := by rfl)
    (hbase : attributeBase (.Name x p1) "append" X.env (eval (.Name x p1) X.env) = eval (.Name x p1) X.env := by rfl)
    (hfew : ((backTo pos (starEach [e] X.env)).all (fun x => !x.1) && (backToKw pos (keywordEach [] X.env)).all (fun x => x.1.isSome) && decide (([e] : List Expr).length + ([] : List Keyword).length + (if ([] : List Keyword).isEmpty then 0 else 1) < 30)) = true := by rfl)
    (hline : (apos.endLine == pos.line) = true := by rfl) (hplain : (backTo pos (starEach [] X.env)).any (·.1) = false := by rfl) {pos2 : Pos} (hsw : swapsWith (.Call (.Attribute (.Name x p1) "append" apos) [e] [] pos) none pos2.line X.env = pure false := by rfl) :
    PSD X T Δ (.Expr (.Call (.Attribute (.Name x p1) "append" apos) [e] [] pos) pos2) P :=
  .of (ps_expr (pe_bm PySem.F.plainAttrs_list PySem.F.slot_list_append PySem.F.type_list_append mt_append (slot_ref i hN hv hd hcd) (pa_cons canE_ok pa_nil hs) hbase hfew hline hs hplain) hsw) fun fm L O σ H D W tk s em => by
    obtain ⟨h1, h2, vs, hl, ra⟩ := s.ow hi
    refine ⟨.ref l, h1, .inl ⟨rfl, vs, .of hl⟩, he.run fm L O σ H _ W tk s fun v H1 g1 s1 r1 => ?_⟩
    obtain ⟨_, _, vs2, hl2, ra2⟩ := s1.ow hi
    have e0 := g1 l _ (s.own i l br _ hi).1 hl
    rw [e0] at hl2
    cases hl2
    refine ⟨l, vs, v, rfl, rfl, e0, by rw [ra2.len]; exact hz, em.nx O σ _ _ h ?_⟩
    exact s1.own_upd hi ⟨vs ++ [v], upd_same, ra2.snoc r1⟩
theorem psd_clear (i : Nat) {x : Str} {p1 apos : Pos} {l : Addr} {br : Bool} {xs : List Dt} (hi : Δ[i]? = some (some (.own l br (.lst xs)))) (h : P.nx (Δ.set i (some (.own l br (.lst []))))) (hN : X.N[i]? = some x := by rfl) (hv : Vis X.env.scope x := by first | exact Or.inl rfl | exact Or.inr (Or.inl rfl) | exact Or.inr (Or.inr rfl))
    (hd : (x == ("__debug__" : Str)) = false := by decide) (hcd : (x == ("__classdict__" : Str)) = false := by decide)
    (hbase : attributeBase (.Name x p1) "clear" X.env (eval (.Name x p1) X.env) = eval (.Name x p1) X.env := by rfl)
    (hline : (apos.endLine == pos.line) = true := by rfl) {pos2 : Pos} (hsw : swapsWith (.Call (.Attribute (.Name x p1) "clear" apos) [] [] pos) none pos2.line X.env = pure false := by rfl) :
    PSD X T Δ (.Expr (.Call (.Attribute (.Name x p1) "clear" apos) [] [] pos) pos2) P :=
  .of (ps_expr (pe_bm0 PySem.F.plainAttrs_list PySem.F.slot_list_clear PySem.F.type_list_clear mt_clear (slot_ref i hN hv hd hcd) hbase hline) hsw) fun fm L O σ H D W tk s em => by
    obtain ⟨h1, h2, vs, hl, ra⟩ := s.ow hi
    refine ⟨.ref l, h1, .inl ⟨rfl, vs, .of hl⟩, l, vs, rfl, rfl, hl, em.nx O σ _ _ h ?_⟩
    exact s.own_upd hi ⟨[], upd_same, .nil⟩
end

/-! ### a def by its body -/
def startD (N : List Str) (ds : List Dt) : DEnv := ds.map (fun d => some (.imm d)) ++ List.replicate (N.length - ds.length) none
def Res.de : Res → DE
  | .val d => { rt := fun _ d' => d' = d, nx := fun _ => d = .non }
  | .own o => { ro := fun _ o' => o' = o }
  | .exc C => { ex := fun _ C' => C' = C }
section
variable {P : Program} {w : World} {K : PySem.W.Frag} {mg : Str → Option Value} {base : Heap} {T : List Addr}
theorem sta_start {N : List Str} {vs : List V} {ds : List Dt} {O : List Addr} {H : Hp} (hp : Pre T O H) (ra : RpA K (mask H O) vs ds) : Sta K T ⟨O, [], H, []⟩ [] O (L2.start N vs) H (startD N ds) where
  tO := hp.tO
  tab := hp.tab
  dom := hp.dom
  o0 := fun _ h => h
  b0 := fun _ h => nomatch h
  d0 := fun l h => (hp.dom l h).1
  pin := fun _ h => nomatch h
  keep := fun _ _ e _ _ _ => e
  lock := fun _ h => nomatch h
  len := by unfold L2.start startD; simp [ra.len]
  slot := fun i e he => by
    unfold startD at he
    unfold L2.start
    by_cases hi : i < ds.length
    · rw [List.getElem?_append_left (by simpa using hi), List.getElem?_map] at he
      cases hd : ds[i]? with
      | none => rw [hd] at he; cases he
      | some d =>
        rw [hd] at he
        cases he
        obtain ⟨v, h1, h2⟩ := ra.get hd
        refine ⟨v, ?_, h2⟩
        rw [List.getElem?_append_left (by rw [List.length_map, ra.len]; exact hi), List.getElem?_map, h1]
        rfl
    · rw [List.getElem?_append_right (by simpa using hi), List.getElem?_replicate] at he
      split at he <;> cases he
  own := fun i l br o he => by
    unfold startD at he
    by_cases hi : i < ds.length
    · rw [List.getElem?_append_left (by simpa using hi), List.getElem?_map] at he
      cases hd : ds[i]? with
      | none => rw [hd] at he; cases he
      | some d => rw [hd] at he; cases he
    · rw [List.getElem?_append_right (by simpa using hi), List.getElem?_replicate] at he
      split at he <;> cases he
  sep := fun i j l br br' o o' he _ => by
    unfold startD at he
    by_cases hi : i < ds.length
    · rw [List.getElem?_append_left (by simpa using hi), List.getElem?_map] at he
      cases hd : ds[i]? with
      | none => rw [hd] at he; cases he
      | some d => rw [hd] at he; cases he
    · rw [List.getElem?_append_right (by simpa using hi), List.getElem?_replicate] at he
      split at he <;> cases he
theorem Sta.gr0 {fm : Fm} {O : List Addr} {σ : St} {H : Hp} {Δ : DEnv} (s : Sta K T fm [] O σ H Δ) (hB : fm.B = []) : Gr T fm.H0 H := fun a o hT e => s.keep a o e hT (by rw [hB]; exact fun z => nomatch z) (fun _ z => nomatch z)
theorem fn_ok {x qual : Str} {st : Stmt} {f : Addr} {fd : FuncData} {N ps : List Str} {k : Nat} {Fn : List Dt → Res → Prop} (F : Fun K x qual st f fd) (S : FnScope N ps (defScope st))
    (hbody : ∀ (cdv : Value) (A : Around) (outer : List PySem.Env) (s : Shared) (H : Hp) (E : XK) (ds : List Dt) (r : Res), Room k (A.deeper (PyProof.Rows.envOfC qual (defScope st) s.heap.objs.size f cdv)) → ds.length = ps.length → Fn ds r →
      PSsD (cxOf (L2.CX P w) P w K mg base N qual (defScope st) f cdv A outer s H E) T (startD N ds) (defBody st) r.de) : FnD P w K mg base T (k + 1) f fd ps Fn := by
  refine F.okX S (fun vs H Q E h => h.1) (fun cdv A outer s H vs Q E hr h => ?_)
  obtain ⟨hl, O, ds, r, hp, ra, hF, ck⟩ := h
  refine ⟨_, canSs_ok, ?_⟩
  refine (hbody cdv A outer s H E ds r hr (by rw [← ra.len]; exact hl) hF).run ⟨O, [], H, []⟩ [] O _ H _ (fun cls d _ H' => E cls d H') (takes_of rfl rfl rfl rfl) (sta_start hp ra) ?_
  have msk : ∀ {O' : List Addr} {H' : Hp}, (∀ l ∈ O, l ∈ O') → Le (mask H' O') (mask H' O) := fun h => mask_sub h
  cases r with
  | val d =>
    refine ⟨fun O' σ' H' Δ' h s' => ?_, fun O' σ' H' Δ' v d' h s' rv => ?_, fun _ _ _ _ _ _ h => h.elim, fun _ _ _ _ h => h.elim, fun _ _ _ _ h => h.elim, fun _ _ _ _ _ h => h.elim⟩
    · have h : d = .non := h
      subst h
      exact ck .non H' (s'.gr0 rfl) s'.tab .non
    · have h : d' = d := h
      subst h
      exact ck v H' (s'.gr0 rfl) s'.tab (rv.mono (msk s'.o0))
  | own o =>
    refine ⟨fun _ _ _ _ h => h.elim, fun _ _ _ _ _ _ h => h.elim, fun O' σ' H' Δ' l o' h s' hl h0 ow => ?_, fun _ _ _ _ h => h.elim, fun _ _ _ _ h => h.elim, fun _ _ _ _ _ h => h.elim⟩
    have h : o' = o := h
    subst h
    refine ck l H' h0 (s'.gr0 rfl) s'.tab (ow.mono (mask_sub fun b hb => ?_) fun u hu => hu)
    rcases List.mem_cons.mp hb with z | z
    · rw [z]; exact hl
    · exact s'.o0 b z
  | exc C =>
    refine ⟨fun _ _ _ _ h => h.elim, fun _ _ _ _ _ _ h => h.elim, fun _ _ _ _ _ _ h => h.elim, fun _ _ _ _ h => h.elim, fun _ _ _ _ h => h.elim, fun O' σ' H' Δ' C' h s' => ?_⟩
    have h : C' = C := h
    subst h
    exact ck H' (s'.gr0 rfl) s'.tab
end
end DL

set_option Elab.async false
set_option linter.all false
set_option maxRecDepth 100000
set_option maxHeartbeats 2000000
/-! DL6: loops, comprehensions. -/
namespace DL
open PySem PySem.Spec L2

abbrev Fm.pin (fm : Fm) (π : List (V × Dt)) : Fm := { fm with pins := π ++ fm.pins }
section
variable {X : Cx} {T : List Addr} {Δ : DEnv} {e a b c : Expr} {es : List Expr} {d d1 d2 d3 : Dt} {ds : List Dt} {r : Res} {pos p : Pos} {st : Stmt} {rest sts : List Stmt} {P : DE}
variable {K : PySem.W.Frag} {fm : Fm} {L : Lk} {O : List Addr} {σ : St} {H H' : Hp} {Q : VK} {W : WX} {D : Ends} {π : List (V × Dt)}
theorem Sta.unpin (s : Sta K T (fm.pin π) L O σ H Δ) : Sta K T fm L O σ H Δ :=
  ⟨s.tO, s.tab, s.dom, s.o0, s.b0, s.d0, fun p hp => s.pin p (List.mem_append_right _ hp), s.keep, s.lock, s.len, s.slot, s.own, s.sep⟩
theorem Sta.dopin (s : Sta K T fm L O σ H Δ) (h : ∀ p ∈ π, Rp K (mask H O) p.1 p.2) : Sta K T (fm.pin π) L O σ H Δ :=
  ⟨s.tO, s.tab, s.dom, s.o0, s.b0, s.d0, fun p hp => (List.mem_append.mp hp).elim (h p) (s.pin p), s.keep, s.lock, s.len, s.slot, s.own, s.sep⟩
theorem Emb.pin (em : Emb K T fm L P D W) : Emb K T (fm.pin π) L P D W :=
  ⟨fun O σ H Δ h s => em.nx O σ H Δ h s.unpin, fun O σ H Δ v d h s => em.rt O σ H Δ v d h s.unpin, fun O σ H Δ l o h s => em.ro O σ H Δ l o h s.unpin, fun O σ H Δ h s => em.bk O σ H Δ h s.unpin, fun O σ H Δ h s => em.ct O σ H Δ h s.unpin, fun O σ H Δ C h s => em.ex O σ H Δ C h s.unpin⟩
/-- what an iterator gives while the state is kept -/
structure ItOk (K : PySem.W.Frag) (T : List Addr) (J : It) (fm : Fm) (L : Lk) (items : List Dt) : Prop where
  go : ∀ (O : List Addr) (σ : St) (H : Hp) (Δ : DEnv) (i : Nat), Sta K T fm L O σ H Δ → i < items.length → J.go i H
  stop : ∀ (O : List Addr) (σ : St) (H : Hp) (Δ : DEnv), Sta K T fm L O σ H Δ → J.stop items.length H
  yld : ∀ (O : List Addr) (σ : St) (H : Hp) (Δ : DEnv) (i : Nat) (x : V) (H2 : Hp) (d : Dt), Sta K T fm L O σ H Δ → items[i]? = some d → J.yld i H x H2 → Gr T H H2 ∧ TabOk T H2 ∧ Rp K (mask H2 O) x d
def canI (X : Cx) (tg iter : Expr) : TI := fun σ H R => ∀ pins s, Inv X pins σ H s → wpAny (model X.prog X.w) X.A (eval iter X.env) (fun v s1 => wpAny (model X.prog X.w) X.A (pyIter v) (PIE X pins σ tg R) X.xe s1) X.xe s
theorem canI_ok {tg iter : Expr} : PI X tg iter (canI X tg iter) := ⟨fun pins s _ _ _ I h => h pins s I⟩
structure PID (X : Cx) (T : List Addr) (Δ : DEnv) (tg iter : Expr) (items : List Dt) : Prop where
  run : ∀ (fm : Fm) (L : Lk) (O : List Addr) (σ : St) (H : Hp) (R : It → Hp → Prop) (W : WX), Takes X W → Sta X.K T fm L O σ H Δ →
    (∀ J H1 π, Gr T H H1 → Sta X.K T (fm.pin π) L O σ H1 Δ → ItOk X.K T J (fm.pin π) L items → R J H1) → canI X tg iter σ H R
theorem PID.of {tg iter : Expr} {items : List Dt} {wi : TI} (h : PI X tg iter wi) (k : ∀ (fm : Fm) (L : Lk) (O : List Addr) (σ : St) (H : Hp) (R : It → Hp → Prop) (W : WX), Takes X W → Sta X.K T fm L O σ H Δ →
    (∀ J H1 π, Gr T H H1 → Sta X.K T (fm.pin π) L O σ H1 Δ → ItOk X.K T J (fm.pin π) L items → R J H1) → wi σ H R) : PID X T Δ tg iter items :=
  ⟨fun fm L O σ H R W tk s q pins sh I => h.run pins sh σ H R I (k fm L O σ H R W tk s q)⟩
theorem memPin {v : V} (s : Sta K T (fm.pin [(v, d)]) L O σ H Δ) : Rp K (mask H O) v d := s.pin _ (List.mem_append_left _ (List.mem_singleton.mpr rfl))
theorem Sta.pin1 {v : V} (s : Sta K T fm L O σ H Δ) (h : Rp K (mask H O) v d) : Sta K T (fm.pin [(v, d)]) L O σ H Δ := s.dopin fun p hp => by
  rw [List.mem_singleton.mp hp]; exact h
theorem pid_list {tg iter : Expr} (ha : PD X T Δ iter (.lst ds)) : PID X T Δ tg iter ds :=
  .of (pi_list canE_ok) fun fm L O σ H R W tk s q => ha.run fm L O σ H _ W tk s fun v H1 g1 s1 r1 => by
    obtain ⟨a, xs, rfl, g, ra⟩ := r1.lst_of
    refine ⟨a, rfl, ⟨xs, .of (s1.out g)⟩, q _ H1 [(.ref a, .lst ds)] g1 (s1.pin1 r1) ⟨fun O σ H Δ i s hi => ?_, fun O σ H Δ s => ?_, fun O σ H Δ i x H2 d s hd hy => ?_⟩⟩
    · obtain ⟨b, ys, e, g, rb⟩ := (memPin s).lst_of
      cases e
      exact ⟨ys, ys[i]'(by rw [rb.len]; exact hi), .of (s.out g), List.getElem?_eq_getElem _⟩
    · obtain ⟨b, ys, e, g, rb⟩ := (memPin s).lst_of
      cases e
      exact ⟨ys, .of (s.out g), Nat.le_of_eq rb.len⟩
    · obtain ⟨b, ys, e, g, rb⟩ := (memPin s).lst_of
      cases e
      obtain ⟨rfl, h⟩ := hy
      obtain ⟨x', e1, rx⟩ := rb.get hd
      have := h ys (.of (s.out g))
      rw [e1] at this
      cases this
      exact ⟨Gr.refl, s.tab, rx⟩
theorem pid_tup {tg iter : Expr} (ha : PD X T Δ iter (.tup ds)) : PID X T Δ tg iter ds :=
  .of (pi_tup canE_ok) fun fm L O σ H R W tk s q => ha.run fm L O σ H _ W tk s fun v H1 g1 s1 r1 => by
    obtain ⟨a, xs, rfl, g, ra⟩ := r1.tup_of
    refine ⟨a, rfl, ⟨xs, .of (s1.out g)⟩, q _ H1 [(.ref a, .tup ds)] g1 (s1.pin1 r1) ⟨fun O σ H Δ i s hi => ?_, fun O σ H Δ s => ?_, fun O σ H Δ i x H2 d s hd hy => ?_⟩⟩
    · obtain ⟨b, ys, e, g, rb⟩ := (memPin s).tup_of
      cases e
      exact ⟨ys, ys[i]'(by rw [rb.len]; exact hi), .of (s.out g), List.getElem?_eq_getElem _⟩
    · obtain ⟨b, ys, e, g, rb⟩ := (memPin s).tup_of
      cases e
      exact ⟨ys, .of (s.out g), Nat.le_of_eq rb.len⟩
    · obtain ⟨b, ys, e, g, rb⟩ := (memPin s).tup_of
      cases e
      obtain ⟨rfl, h⟩ := hy
      obtain ⟨x', e1, rx⟩ := rb.get hd
      have := h ys (.of (s.out g))
      rw [e1] at this
      cases this
      exact ⟨Gr.refl, s.tab, rx⟩
theorem pid_str {tg iter : Expr} {z : List Nat} (ha : PD X T Δ iter (.str z)) : PID X T Δ tg iter (z.map fun c => .str [c]) :=
  .of (pi_str canE_ok) fun fm L O σ H R W tk s q => ha.run fm L O σ H _ W tk s fun v H1 g1 s1 r1 => by
    refine ⟨_, r1.str_of, q _ H1 [] g1 s1 ⟨fun O σ H Δ i s hi => ?_, fun O σ H Δ s => ?_, fun O σ H Δ i x H2 d s hd hy => ?_⟩⟩
    · show i < _
      simpa using hi
    · show _ ≤ _
      simp
    · obtain ⟨rfl, c, hc, rfl⟩ := hy
      have hc : z[i]? = some c := by simpa using hc
      rw [List.getElem?_map, hc] at hd
      cases hd
      exact ⟨Gr.refl, s.tab, .str [c]⟩
/-- range(n) -/
def rangeD (lo : Int) (n : Nat) : List Dt := (List.range n).map fun i => .int (lo + (i : Nat))
theorem rangeD_len (lo : Int) (n : Nat) : (rangeD lo n).length = n := by unfold rangeD; simp
theorem rangeD_get {lo : Int} {n i : Nat} {d : Dt} (h : (rangeD lo n)[i]? = some d) : i < n ∧ d = .int (lo + i) := by
  unfold rangeD at h
  rw [List.getElem?_map] at h
  cases hi : (List.range n)[i]? with
  | none => rw [hi] at h; cases h
  | some j =>
    rw [hi] at h
    obtain ⟨h1, h2⟩ := List.getElem?_eq_some_iff.mp hi
    rw [List.getElem_range] at h2
    subst h2
    cases h
    exact ⟨by simpa using h1, rfl⟩
theorem itr_ok {lo : Int} {n : Nat} : ItOk K T (Itr lo n) fm L (rangeD lo n) := by
  refine ⟨fun O σ H Δ i s hi => ?_, fun O σ H Δ s => ?_, fun O σ H Δ i x H2 d s hd hy => ?_⟩
  · rw [rangeD_len] at hi; exact hi
  · rw [rangeD_len]; exact Nat.le_refl _
  · obtain ⟨rfl, rfl⟩ := hy
    obtain ⟨_, rfl⟩ := rangeD_get hd
    exact ⟨Gr.refl, s.tab, .int _⟩
/-- range(n) from nought -/
def rangeN (n : Nat) : List Dt := (List.range n).map fun i => .int ((i : Nat) : Int)
theorem rangeN_len (n : Nat) : (rangeN n).length = n := by unfold rangeN; simp
theorem rangeN_eq (n : Nat) : rangeN n = rangeD 0 n := by unfold rangeN rangeD; simp
theorem rangeN_get {n i : Nat} {d : Dt} (h : (rangeN n)[i]? = some d) : i < n ∧ d = .int ((i : Nat) : Int) := by
  rw [rangeN_eq] at h
  obtain ⟨h1, h2⟩ := rangeD_get h
  exact ⟨h1, by rw [h2, Int.zero_add]⟩
theorem pid_range1 {tg : Expr} {n : Int} (hm : X.mg "range" = none) (ha : PD X T Δ a (.int n)) (h1 : -(2 ^ 62) ≤ n) (h2 : n < 2 ^ 62) (hg : Gl X "range" := by rfl)
    (hs : starEach [a] X.env = (false, eval a X.env) :: starEach [] X.env := by rfl) (hs2 : starEach [a] X.env = [(false, eval a X.env)] := by rfl) : PID X T Δ tg (.Call (.Name "range" p) [a] [] pos) (rangeN n.toNat) :=
  .of (pi_range1 hg hm canA_ok hs2) fun fm L O σ H R W tk s q => (pad_cons ha pad_nil hs).run fm L O σ H _ W tk s fun vs H1 g1 s1 r1 => by
    obtain ⟨v, rfl, rv⟩ := r1.one
    rw [rv.int_of]
    exact ⟨n, rfl, h1, h2, q _ H1 [] g1 s1 (by rw [rangeN_eq]; exact itr_ok)⟩
theorem pid_range2 {tg : Expr} {m n : Int} (hm : X.mg "range" = none) (ha : PD X T Δ a (.int m)) (hb : PD X T Δ b (.int n)) (h : -(2 ^ 62) ≤ m ∧ m < 2 ^ 62 ∧ -(2 ^ 62) ≤ n ∧ n < 2 ^ 62) (hg : Gl X "range" := by rfl)
    (hs : starEach [a, b] X.env = (false, eval a X.env) :: starEach [b] X.env := by rfl) (hs1 : starEach [b] X.env = (false, eval b X.env) :: starEach [] X.env := by rfl) (hs2 : starEach [a, b] X.env = [(false, eval a X.env), (false, eval b X.env)] := by rfl) (hs3 : starEach [b] X.env = [(false, eval b X.env)] := by rfl) :
    PID X T Δ tg (.Call (.Name "range" p) [a, b] [] pos) (rangeD m (n - m).toNat) :=
  .of (pi_range2 hg hm canA_ok hs2 hs3) fun fm L O σ H R W tk s q => (pad_cons ha (pad_cons hb pad_nil hs1) hs).run fm L O σ H _ W tk s fun vs H1 g1 s1 r1 => by
    obtain ⟨v, w, rfl, rv, rw'⟩ := r1.two
    rw [rv.int_of, rw'.int_of]
    exact ⟨m, n, rfl, h, q _ H1 [] g1 s1 itr_ok⟩
/-- enumerate(xs) -/
theorem pid_enum {tpos : Pos} {elts : List Expr} {kk : Nat} (hm : X.mg "enumerate" = none) (ha : PD X T Δ a (.lst ds)) (hg : Gl X "enumerate" := by rfl) (hs : starEach [a] X.env = (false, eval a X.env) :: starEach [] X.env := by rfl) (hs2 : starEach [a] X.env = [(false, eval a X.env)] := by rfl) :
    PID X T Δ (.Tuple elts kk tpos) (.Call (.Name "enumerate" p) [a] [] pos) (ds.mapIdx fun i d => .tup [.int (i : Nat), d]) :=
  .of (pi_enum hg hm canA_ok hs2) fun fm L O σ H R W tk s q => (pad_cons ha pad_nil hs).run fm L O σ H _ W tk s fun vs H1 g1 s1 r1 => by
    obtain ⟨v, rfl, rv⟩ := r1.one
    obtain ⟨a, xs, rfl, g, ra⟩ := rv.lst_of
    refine ⟨a, xs, rfl, .of (s1.out g), q _ H1 [(.ref a, .lst ds)] g1 (s1.pin1 rv) ⟨fun O σ H Δ i s hi => ?_, fun O σ H Δ s => ?_, fun O σ H Δ i x H2 d s hd hy => ?_⟩⟩
    · rw [List.length_mapIdx] at hi
      obtain ⟨b, ys, e, g, rb⟩ := (memPin s).lst_of
      cases e
      exact ⟨ys, ys[i]'(by rw [rb.len]; exact hi), .of (s.out g), List.getElem?_eq_getElem _⟩
    · rw [List.length_mapIdx]
      obtain ⟨b, ys, e, g, rb⟩ := (memPin s).lst_of
      cases e
      exact ⟨ys, .of (s.out g), Nat.le_of_eq rb.len⟩
    · obtain ⟨b, ys, e, g, rb⟩ := (memPin s).lst_of
      cases e
      obtain ⟨Tp, z, rfl, hT, rfl, h⟩ := hy
      rw [List.getElem?_mapIdx] at hd
      cases hz : ds[i]? with
      | none => rw [hz] at hd; cases hd
      | some d0 =>
        rw [hz] at hd
        cases hd
        obtain ⟨x', e1, rx⟩ := rb.get hz
        have := h ys (.of (s.out g))
        rw [e1] at this
        cases this
        exact ⟨Gr.new hT, (s.new hT).tab, Rp.new_tup s hT (.cons (.int _) (.cons rx .nil))⟩
/-- zip(xs, ys) -/
theorem pid_zip {es2 : List Dt} {tpos : Pos} {elts : List Expr} {kk : Nat} (hm : X.mg "zip" = none) (ha : PD X T Δ a (.lst ds)) (hb : PD X T Δ b (.lst es2)) (hg : Gl X "zip" := by rfl) (hs : starEach [a, b] X.env = (false, eval a X.env) :: starEach [b] X.env := by rfl)
    (hs2 : starEach [b] X.env = (false, eval b X.env) :: starEach [] X.env := by rfl) (hpl : (backTo pos (starEach [b] X.env)).any (·.1) = false := by rfl) :
    PID X T Δ (.Tuple elts kk tpos) (.Call (.Name "zip" p) [a, b] [] pos) ((ds.zip es2).map fun q => .tup [q.1, q.2]) :=
  .of (pi_zip hg hm canA_ok hs hpl) fun fm L O σ H R W tk s q => (pad_cons ha (pad_cons hb pad_nil hs2) hs).run fm L O σ H _ W tk s fun vs H1 g1 s1 r1 => by
    obtain ⟨v, w, rfl, rv, rw'⟩ := r1.two
    obtain ⟨a, xs, rfl, g, ra⟩ := rv.lst_of
    obtain ⟨b, ys, rfl, g', rb⟩ := rw'.lst_of
    have lz : ((ds.zip es2).map fun q => Dt.tup [q.1, q.2]).length = min ds.length es2.length := by simp
    have two : ∀ {O σ H Δ}, Sta X.K T (fm.pin [(.ref a, .lst ds), (.ref b, .lst es2)]) L O σ H Δ → (∃ xs, H a = some (.lst xs) ∧ RpA X.K (mask H O) xs ds) ∧ ∃ ys, H b = some (.lst ys) ∧ RpA X.K (mask H O) ys es2 := fun {O σ H Δ} s => by
      obtain ⟨a1, x1, e1, g1, r1⟩ := (s.pin (.ref a, .lst ds) (List.mem_append_left _ List.mem_cons_self)).lst_of
      obtain ⟨a2, x2, e2, g2, r2⟩ := (s.pin (.ref b, .lst es2) (List.mem_append_left _ (List.mem_cons_of_mem _ List.mem_cons_self))).lst_of
      cases e1; cases e2
      exact ⟨⟨x1, s.out g1, r1⟩, x2, s.out g2, r2⟩
    refine ⟨a, b, xs, ys, rfl, .of (s1.out g), .of (s1.out g'), q _ H1 [(.ref a, .lst ds), (.ref b, .lst es2)] g1 (s1.dopin fun p hp => ?_) ⟨fun O σ H Δ i s hi => ?_, fun O σ H Δ s => ?_, fun O σ H Δ i x H2 d s hd hy => ?_⟩⟩
    · rcases List.mem_cons.mp hp with z | z
      · rw [z]; exact rv
      · rw [List.mem_singleton.mp z]; exact rw'
    · rw [lz] at hi
      obtain ⟨⟨xs, h1, r1⟩, ys, h2, r2⟩ := two s
      have := r1.len
      have := r2.len
      exact ⟨xs, ys, xs[i]'(by omega), ys[i]'(by omega), .of h1, .of h2, List.getElem?_eq_getElem _, List.getElem?_eq_getElem _⟩
    · rw [lz]
      obtain ⟨⟨xs, h1, r1⟩, ys, h2, r2⟩ := two s
      have := r1.len
      have := r2.len
      exact ⟨xs, ys, .of h1, .of h2, by omega⟩
    · obtain ⟨⟨xs, h1, r1⟩, ys, h2, r2⟩ := two s
      obtain ⟨Tp, x', y', rfl, hT, rfl, hx, hy⟩ := hy
      rw [List.getElem?_map] at hd
      cases hz : (ds.zip es2)[i]? with
      | none => rw [hz] at hd; cases hd
      | some pr =>
        rw [hz] at hd
        cases hd
        obtain ⟨z1, z2⟩ := List.getElem?_zip_eq_some.mp hz
        obtain ⟨v1, e1, rx⟩ := r1.get z1
        obtain ⟨v2, e2, ry⟩ := r2.get z2
        have q1 := hx xs (.of h1)
        have q2 := hy ys (.of h2)
        rw [e1] at q1; cases q1
        rw [e2] at q2; cases q2
        exact ⟨Gr.new hT, (s.new hT).tab, Rp.new_tup s hT (.cons rx (.cons ry .nil))⟩
/-- reversed(xs), a list -/
theorem pid_rev {tg : Expr} (hm : X.mg "reversed" = none) (ha : PD X T Δ a (.lst ds)) (hg : Gl X "reversed" := by rfl) (hs : starEach [a] X.env = (false, eval a X.env) :: starEach [] X.env := by rfl) (hs2 : starEach [a] X.env = [(false, eval a X.env)] := by rfl) :
    PID X T Δ tg (.Call (.Name "reversed" p) [a] [] pos) ds.reverse :=
  .of (pi_reversed hg hm canA_ok hs2) fun fm L O σ H R W tk s q => (pad_cons ha pad_nil hs).run fm L O σ H _ W tk s fun vs H1 g1 s1 r1 => by
    obtain ⟨v, rfl, rv⟩ := r1.one
    obtain ⟨a, xs, rfl, g, ra⟩ := rv.lst_of
    refine ⟨a, xs, rfl, .of (s1.out g), q _ H1 [(.ref a, .lst ds)] g1 (s1.pin1 rv) ⟨fun O σ H Δ i s hi => ?_, fun O σ H Δ s => ?_, fun O σ H Δ i x H2 d s hd hy => ?_⟩⟩
    · rw [List.length_reverse] at hi
      obtain ⟨b, ys, e, g, rb⟩ := (memPin s).lst_of
      cases e
      have := ra.len
      have := rb.len
      exact ⟨by omega, ys, ys[xs.length - 1 - i]'(by omega), .of (s.out g), List.getElem?_eq_getElem _⟩
    · rw [List.length_reverse]
      show _ ≤ _
      rw [ra.len]; exact Nat.le_refl _
    · obtain ⟨b, ys, e, g, rb⟩ := (memPin s).lst_of
      cases e
      obtain ⟨rfl, h⟩ := hy
      have hi : i < ds.length := by
        have := (List.getElem?_eq_some_iff.mp hd).1
        rwa [List.length_reverse] at this
      rw [List.getElem?_reverse hi] at hd
      obtain ⟨x', e1, rx⟩ := rb.get hd
      have := h ys (.of (s.out g))
      rw [ra.len, e1] at this
      cases this
      exact ⟨Gr.refl, s.tab, rx⟩

/-! ### for, while -/
theorem psd_for {tg iter : Expr} {body : List Stmt} {items : List Dt} (po : PassesOwn (model X.prog X.w) X.A X.env X.xe) (hc : X.calm = true) (hi : PID X T Δ tg iter items) (Iv : Nat → DEnv → Prop) (h0 : Iv 0 Δ)
    (hs : ∀ (i : Nat) (d : Dt) (Δ' : DEnv), items[i]? = some d → Iv i Δ' → ∃ js Δ'', GD X T tg d js Δ' Δ'' ∧ PSsD X T Δ'' body { P with nx := Iv (i + 1), ct := Iv (i + 1), bk := P.nx }) (hd : ∀ Δ', Iv items.length Δ' → P.nx Δ')
    (hfs : ∀ x, foldedSetIterable iter X.env x = pure x := by intro _; rfl) : PSD X T Δ (.For tg iter body [] pos) P :=
  .of (ps_for po hc canI_ok canG_ok canSs_ok hfs) fun fm L O σ H D W tk s em => hi.run fm L O σ H _ W tk s fun J H1 π g1 s1 ok => by
    refine ⟨fun i m σ' H' => m = items.length - i ∧ i ≤ items.length ∧ ∃ O' Δ', Iv i Δ' ∧ Sta X.K T (fm.pin π) L O' σ' H' Δ', ⟨items.length, by simp, Nat.zero_le _, O, Δ, h0, s1⟩, ?_⟩
    rintro i m σ' H' ⟨rfl, hi, O', Δ', iv, s'⟩
    by_cases hlt : i < items.length
    · refine .inr ⟨ok.go O' σ' H' Δ' i s' hlt, fun σ2 H2 => ∃ O2 Δ2, Iv (i + 1) Δ2 ∧ Sta X.K T (fm.pin π) L O2 σ2 H2 Δ2, fun σ2 H2 ⟨O2, Δ2, iv2, s2⟩ => ⟨items.length - (i + 1), by omega, rfl, hlt, O2, Δ2, iv2, s2⟩, fun x H2 hy => ?_⟩
      obtain ⟨g2, t2, rx⟩ := ok.yld O' σ' H' Δ' i x H2 items[i] s' (List.getElem?_eq_getElem hlt) hy
      obtain ⟨js, Δ'', hgd, hb⟩ := hs i items[i] Δ' (List.getElem?_eq_getElem hlt) iv
      refine hgd.run (fm.pin π) L O' σ' H2 x _ (s'.gr g2 t2) rx fun σ2 s2 _ => hb.run (fm.pin π) L O' σ2 H2 _ W tk s2 ?_
      exact ⟨fun O σ H Δ h s => ⟨O, Δ, h, s⟩, em.pin.rt, em.pin.ro, fun O σ H Δ h s => em.nx O σ H Δ h s.unpin, fun O σ H Δ h s => ⟨O, Δ, h, s⟩, em.pin.ex⟩
    · have e : i = items.length := by omega
      subst e
      exact .inl ⟨ok.stop O' σ' H' Δ' s', em.nx O' σ' H' Δ' (hd Δ' iv) s'.unpin⟩
theorem psd_while {body : List Stmt} (po : PassesOwn (model X.prog X.w) X.A X.env X.xe) (Iv : Nat → DEnv → Prop) (m0 : Nat) (h0 : Iv m0 Δ)
    (hs : ∀ (m : Nat) (Δ' : DEnv), Iv m Δ' → ∃ k, PTD X T Δ' c k ∧ (k = true → PSsD X T Δ' body { P with nx := fun Δ'' => ∃ m', m' < m ∧ Iv m' Δ'', ct := fun Δ'' => ∃ m', m' < m ∧ Iv m' Δ'', bk := P.nx }) ∧ (k = false → P.nx Δ')) : PSD X T Δ (.While c body [] pos) P :=
  .of (ps_while po canT_ok canSs_ok) fun fm L O σ H D W tk s em => by
    refine ⟨fun m σ' H' => ∃ O' Δ', Iv m Δ' ∧ Sta X.K T fm L O' σ' H' Δ', ⟨m0, O, Δ, h0, s⟩, fun m σ' H' ⟨O', Δ', iv, s'⟩ => ?_⟩
    obtain ⟨k, hk, h1, h2⟩ := hs m Δ' iv
    refine hk.run fm L O' σ' H' _ W tk s' fun H2 g2 s2 => ?_
    cases k with
    | false => exact em.nx O' σ' H2 Δ' (h2 rfl) s2
    | true =>
      rw [if_pos rfl]
      refine ⟨fun σ3 H3 => ∃ O3 Δ3, (∃ m', m' < m ∧ Iv m' Δ3) ∧ Sta X.K T fm L O3 σ3 H3 Δ3, fun σ3 H3 ⟨O3, Δ3, ⟨m', hm, iv3⟩, s3⟩ => ⟨m', hm, O3, Δ3, iv3, s3⟩, ?_⟩
      refine (h1 rfl).run fm L O' σ' H2 _ W tk s2 ?_
      exact ⟨fun O σ H Δ h s => ⟨O, Δ, h, s⟩, em.rt, em.ro, em.nx, fun O σ H Δ h s => ⟨O, Δ, h, s⟩, em.ex⟩

/-! ### comprehensions -/
def wipeD (Δ : DEnv) : List Nat → DEnv
  | [] => Δ
  | v :: vs => (wipeD Δ vs).set v none
theorem wipeD_len (Δ : DEnv) : ∀ vs, (wipeD Δ vs).length = Δ.length
  | [] => rfl
  | v :: vs => by unfold wipeD; rw [List.length_set, wipeD_len Δ vs]
theorem wipe_get {σ : St} : ∀ (vs : List Nat) (i : Nat), (wipe σ vs)[i]? = if i ∈ vs then (if i < σ.length then some none else none) else σ[i]?
  | [], i => by simp [wipe]
  | v :: vs, i => by
    unfold wipe
    rw [List.getElem?_set, wipe_get vs i, wipe_length]
    by_cases h : v = i
    · subst h
      simp
    · have h' : ¬ i = v := fun z => h z.symm
      simp [h, h']
theorem wipeD_get {Δ : DEnv} : ∀ (vs : List Nat) (i : Nat), (wipeD Δ vs)[i]? = if i ∈ vs then (if i < Δ.length then some none else none) else Δ[i]?
  | [], i => by simp [wipeD]
  | v :: vs, i => by
    unfold wipeD
    rw [List.getElem?_set, wipeD_get vs i, wipeD_len]
    by_cases h : v = i
    · subst h
      simp
    · have h' : ¬ i = v := fun z => h z.symm
      simp [h, h']
theorem wipe_same {σ σ2 : St} {vs js : List Nat} (hl : σ2.length = σ.length) (hj : ∀ j ∈ js, j ∈ vs) (h : ∀ i, i ∉ js → σ2[i]? = (wipe σ vs)[i]?) : wipe σ2 vs = wipe σ vs := by
  refine List.ext_getElem? fun i => ?_
  rw [wipe_get, wipe_get, hl]
  by_cases hi : i ∈ vs
  · rw [if_pos hi, if_pos hi]
  · rw [if_neg hi, if_neg hi, h i fun z => hi (hj i z), wipe_get, if_neg hi]
theorem Sta.wiped (s : Sta K T fm L O σ H Δ) (vs : List Nat) : Sta K T fm L O (wipe σ vs) H (wipeD Δ vs) :=
  s.weak (by rw [wipe_length, wipeD_len, s.len]) fun i e he => by
    rw [wipeD_get] at he
    by_cases hi : i ∈ vs
    · rw [if_pos hi] at he
      split at he <;> cases he
    · rw [if_neg hi] at he
      refine ⟨he, ?_⟩
      rw [wipe_get, if_neg hi]
abbrev blkX (X : Cx) (scope : Scope) (s : Shared) (H : Hp) (C : Addr) (cl : List (Str × Addr)) (fp : List Addr) : Cx := X.blk s H scope (compEnvC scope cl C X.env) fp
def canEb (X : Cx) (scope : Scope) (e : Expr) : TE := fun σ H Q => ∀ s0 H0 C cl fp, canE (blkX X scope s0 H0 C cl fp) e σ H Q
def canTb (X : Cx) (scope : Scope) (e : Expr) : TT := fun σ H Q => ∀ s0 H0 C cl fp, canT (blkX X scope s0 H0 C cl fp) e σ H Q
def canGb (X : Cx) (scope : Scope) (e : Expr) : TG := fun v σ H Q => ∀ s0 H0 C cl fp, canG (blkX X scope s0 H0 C cl fp) e v σ H Q
/-- in the block: for each of its frames -/
def InBlk (X : Cx) (scope : Scope) (f : Cx → Prop) : Prop := ∀ s0 H0 C cl fp, f (blkX X scope s0 H0 C cl fp)
/-- what the turns give: sel the kept ones -/
structure LcTurn (X : Cx) (T : List Addr) (scope : Scope) (vs : List Nat) (tg : Expr) (tt : TT) (elt : Expr) (Δ : DEnv) (d : Dt) (o : Option Dt) : Prop where
  ex : ∃ js Δ'' k, (∀ j ∈ js, j ∈ vs) ∧ InBlk X scope (fun X' => GD X' T tg d js (wipeD Δ vs) Δ'') ∧
    (∀ (fm : Fm) (L : Lk) (O : List Addr) (σ : St) (H : Hp) (Q : Bool → Hp → Prop), Sta X.K T fm L O σ H Δ'' → (∀ H2, Gr T H H2 → Sta X.K T fm L O σ H2 Δ'' → Q k H2) → tt σ H Q) ∧
    (k = true → ∃ d', o = some d' ∧ InBlk X scope (fun X' => PD X' T Δ'' elt d')) ∧ (k = false → o = none)
theorem turn_all {scope : Scope} {vs js : List Nat} {tg elt : Expr} {Δ'' : DEnv} {d' : Dt} (hj : ∀ j ∈ js, j ∈ vs) (hg : InBlk X scope (fun X' => GD X' T tg d js (wipeD Δ vs) Δ'')) (he : InBlk X scope (fun X' => PD X' T Δ'' elt d')) : LcTurn X T scope vs tg tYes elt Δ d (some d') :=
  ⟨js, Δ'', true, hj, hg, fun fm L O σ H Q s q => q H Gr.refl s, fun _ => ⟨d', rfl, he⟩, fun z => nomatch z⟩
theorem turn_if {scope : Scope} {vs js : List Nat} {tg elt : Expr} {Δ'' : DEnv} {k : Bool} {o : Option Dt} (hj : ∀ j ∈ js, j ∈ vs) (hg : InBlk X scope (fun X' => GD X' T tg d js (wipeD Δ vs) Δ'')) (hk : InBlk X scope (fun X' => PTD X' T Δ'' c k))
    (he : k = true → ∃ d', o = some d' ∧ InBlk X scope (fun X' => PD X' T Δ'' elt d')) (hn : k = false → o = none) : LcTurn X T scope vs tg (canTb X scope c) elt Δ d o :=
  ⟨js, Δ'', k, hj, hg, fun fm L O σ H Q s q s0 H0 C cl fp => (hk s0 H0 C cl fp).run fm L O σ H Q _ takes0 s q, he, hn⟩
theorem lc_read {scope : Scope} {vs : List Nat} {tg iter elt : Expr} {tt : TT} {items : List Dt} {sel : List (Option Dt)} (hi : PID X T Δ tg iter items) (hl : sel.length = items.length) (hz : items.length < sizeLine)
    (ht : ∀ (i : Nat) (d : Dt) (o : Option Dt), items[i]? = some d → sel[i]? = some o → LcTurn X T scope vs tg tt elt Δ d o)
    (fm : Fm) (L : Lk) (O : List Addr) (σ : St) (H : Hp) (Q : VK) (W : WX) (tk : Takes X W) (s : Sta X.K T fm L O σ H Δ) (q : RK X.K T fm L O σ H Δ Q W (.own (.lst (sel.filterMap id)))) :
    tLc (canI X tg iter) (canGb X scope tg) tt (canEb X scope elt) vs σ H Q :=
  hi.run fm L O σ H _ W tk s fun J H1 π g1 s1 ok => by
    intro Dl hD
    have hD0 : H Dl = none := g1.back (s1.new_apart hD).2.2.1 hD
    obtain ⟨aO, a0, aT, aL⟩ := s1.new_apart hD
    refine ⟨fun i m H' => m = items.length - i ∧ i ≤ items.length ∧ Gr T H1 H' ∧ Sta X.K T (fm.pin π) L (Dl :: O) σ H' Δ ∧ ∃ acc, H' Dl = some (.lst acc) ∧ RpA X.K (mask H' (Dl :: O)) acc ((sel.take i).filterMap id),
      ⟨items.length, by simp, Nat.zero_le _, Gr.new hD, s1.hide hD, [], upd_same, .nil⟩, ?_⟩
    rintro i m H' ⟨rfl, hi, g', s', acc, hacc, racc⟩
    by_cases hlt : i < items.length
    · have hsl : i < sel.length := by omega
      obtain ⟨js, Δ'', k, hj, hgd, htt, hyes, hno⟩ := (ht i items[i] sel[i] (List.getElem?_eq_getElem hlt) (List.getElem?_eq_getElem hsl)).ex
      have take1 : (sel.take (i + 1)).filterMap id = (sel.take i).filterMap id ++ (match sel[i] with | some d => [d] | none => []) := by
        rw [List.take_succ_eq_append_getElem hsl, List.filterMap_append]
        congr 1
        cases sel[i] <;> rfl
      refine .inr ⟨ok.go _ _ _ _ i s' hlt, fun H2 => Gr T H1 H2 ∧ Sta X.K T (fm.pin π) L (Dl :: O) σ H2 Δ ∧ ∃ acc, H2 Dl = some (.lst acc) ∧ RpA X.K (mask H2 (Dl :: O)) acc ((sel.take (i + 1)).filterMap id),
        fun H2 ⟨g2, s2, h2⟩ => ⟨items.length - (i + 1), by omega, rfl, hlt, g2, s2, h2⟩, fun x H2 hy => ?_⟩
      obtain ⟨g2, t2, rx⟩ := ok.yld _ _ _ _ i x H2 items[i] s' (List.getElem?_eq_getElem hlt) hy
      have s2 := s'.gr g2 t2
      have hacc2 : H2 Dl = some (.lst acc) := g2 Dl _ aT hacc
      intro s0 H0 C cl fp
      refine (hgd s0 H0 C cl fp).run (fm.pin π) L (Dl :: O) (wipe σ vs) H2 x _ (s2.wiped vs) rx fun σ2 s3 hsame => ?_
      refine ⟨wipe_same (hsame.len.trans (wipe_length σ vs)) hj hsame.at_, ?_⟩
      refine htt (fm.pin π) L (Dl :: O) σ2 H2 _ s3 fun H3 g3 s4 => ?_
      have s5 := s2.gr g3 s4.tab
      have hacc3 : H3 Dl = some (.lst acc) := g3 Dl _ aT hacc2
      have le3 := (g2.trans g3).mask (O := Dl :: O) (fun P hP => s'.tO P hP)
      cases k with
      | false =>
        rw [if_neg Bool.false_ne_true]
        have e := hno rfl
        refine ⟨(g'.trans g2).trans g3, s5, acc, hacc3, ?_⟩
        rw [take1, e, List.append_nil]
        exact racc.mono le3
      | true =>
        rw [if_pos rfl]
        obtain ⟨d', e, hpd⟩ := hyes rfl
        intro s0 H0 C cl fp
        refine (hpd s0 H0 C cl fp).run (fm.pin π) L (Dl :: O) σ2 H3 _ _ takes0 s4 fun y H4 g4 s6 ry => ?_
        have s7 := s5.gr g4 s6.tab
        have hacc4 : H4 Dl = some (.lst acc) := g4 Dl _ aT hacc3
        have hm : mask (upd H4 Dl (.lst (acc ++ [y]))) (Dl :: O) = mask H4 (Dl :: O) := mask_upd List.mem_cons_self
        refine ⟨acc, hacc4, ?_, fun a o n ha => ?_, ?_, acc ++ [y], upd_same, ?_⟩
        · have := racc.len
          have h2 := List.length_filterMap_le id (sel.take i)
          rw [List.length_take] at h2
          omega
        · have ne : a ≠ Dl := fun z => by rw [z, hD] at ha; cases ha
          rw [upd_ne ne]
          exact g4 a o n (g3 a o n (g2 a o n (g' a o n ha)))
        · have hne : ∀ (i : Nat) (l : Addr) (br : Bool) (o : Ow), Δ[i]? = some (some (.own l br o)) → l ≠ Dl := aL
          refine ⟨s7.tO, fun P hP => ?_, fun l hl => ?_, s7.o0, s7.b0, s7.d0, fun q hq => by rw [hm]; exact s7.pin q hq, fun a o e h1 h2 h3 => ?_, fun q hq => ?_, s7.len, fun i e he => ?_, s7.own, s7.sep⟩
          · obtain ⟨ps, e1, q1⟩ := s7.tab P hP
            exact ⟨ps, by rw [upd_ne fun (z : P = Dl) => aT (z ▸ hP)]; exact e1, q1⟩
          · by_cases hl2 : l = Dl
            · rw [hl2]; exact .of upd_same fun _ z => nomatch z
            · exact (s7.dom l hl).keep fun v e => by rw [upd_ne hl2]; exact e
          · have ne : a ≠ Dl := fun z => by
              have := s1.fresh0 hD
              rw [z] at e
              have e2 : fm.H0 Dl = some o := e
              rw [show fm.H0 Dl = none from this] at e2; cases e2
            rw [upd_ne ne]
            exact s7.keep a o e h1 h2 h3
          · have ne : q.1 ≠ Dl := fun z => by
              have := s1.lock q hq
              rw [z, hD] at this; cases this
            rw [upd_ne ne]
            exact s7.lock q hq
          · obtain ⟨v, h1, h2⟩ := s7.slot i e he
            refine ⟨v, h1, ?_⟩
            cases e with
            | imm d =>
              show Rp X.K (mask (upd H4 Dl (.lst (acc ++ [y]))) (Dl :: O)) v d
              rw [hm]; exact h2
            | own l br o =>
              obtain ⟨q1, q2, q3⟩ := h2
              refine ⟨q1, q2, ?_⟩
              rw [hm]
              exact q3.mono (Le.refl _) fun u hu => by rw [upd_ne (hne i l br o he)]; exact hu
        · rw [hm, take1, e]
          exact (racc.mono (((g2.trans g3).trans g4).mask (O := Dl :: O) (fun P hP => s'.tO P hP))).snoc ry
    · have e : i = items.length := by omega
      subst e
      refine .inl ⟨ok.stop _ _ _ _ s', q Dl H' hD0 (g1.trans g') s'.unpin ⟨acc, hacc, ?_⟩⟩
      rw [show sel.take items.length = sel by rw [← hl]; exact List.take_length] at racc
      exact racc
theorem filterMap_some (outs : List Dt) : (outs.map some).filterMap id = outs := by
  induction outs with
  | nil => rfl
  | cons a r ih => simpa using ih
/-- [elt for tg in iter] -/
theorem pr_lc {scope : Scope} {own : List (Str × Nat)} {tg iter elt : Expr} {items outs : List Dt} (hc : X.calm = true) (hN : X.N.Nodup) (ok : BlkOk X.N X.env.scope scope own) (hi : PID X T Δ tg iter items) (hl : outs.length = items.length) (hz : items.length < sizeLine)
    (ht : ∀ (i : Nat) (d o : Dt), items[i]? = some d → outs[i]? = some o → ∃ js Δ'', (∀ j ∈ js, j ∈ own.map (·.2)) ∧ InBlk X scope (fun X' => GD X' T tg d js (wipeD Δ (own.map (·.2))) Δ'') ∧ InBlk X scope (fun X' => PD X' T Δ'' elt o))
    (hfs : ∀ x, foldedSetIterable iter X.env x = pure x := by intro _; rfl) : PR X T Δ (.ListComp elt [⟨tg, iter, [], 0⟩] scope pos) (.own (.lst outs)) :=
  .of (pe_lc (g := canGb X scope tg) (tt := tYes) (te := canEb X scope elt) hc hN canI_ok ok (fun s H C cl fp => ⟨fun pins sh σ H v u Q I r h => h s _ C cl fp pins sh u I r⟩) (fun _ _ _ _ _ => pts_nil) (fun s H C cl fp => ⟨fun pins sh σ H Q I h => h s _ C cl fp pins sh I⟩) hfs) fun fm L O σ H Q W tk s q =>
    lc_read hi (sel := outs.map some) (by rw [List.length_map]; exact hl) hz (fun i d o h1 h2 => by
      rw [List.getElem?_map] at h2
      cases ho : outs[i]? with
      | none => rw [ho] at h2; cases h2
      | some o' =>
        rw [ho] at h2
        cases h2
        obtain ⟨js, Δ'', hj, hg, he⟩ := ht i d o' h1 ho
        exact turn_all hj hg he) fm L O σ H Q W tk s (by rw [filterMap_some]; exact q)
/-- [elt for tg in iter if c] -/
theorem pr_lcIf {scope : Scope} {own : List (Str × Nat)} {tg iter elt : Expr} {items : List Dt} {sel : List (Option Dt)} (hc : X.calm = true) (hN : X.N.Nodup) (ok : BlkOk X.N X.env.scope scope own) (hi : PID X T Δ tg iter items) (hl : sel.length = items.length) (hz : items.length < sizeLine)
    (ht : ∀ (i : Nat) (d : Dt) (o : Option Dt), items[i]? = some d → sel[i]? = some o → ∃ js Δ'' k, (∀ j ∈ js, j ∈ own.map (·.2)) ∧ InBlk X scope (fun X' => GD X' T tg d js (wipeD Δ (own.map (·.2))) Δ'') ∧ InBlk X scope (fun X' => PTD X' T Δ'' c k) ∧ (k = true → ∃ d', o = some d' ∧ InBlk X scope (fun X' => PD X' T Δ'' elt d')) ∧ (k = false → o = none))
    (hfs : ∀ x, foldedSetIterable iter X.env x = pure x := by intro _; rfl) : PR X T Δ (.ListComp elt [⟨tg, iter, [c], 0⟩] scope pos) (.own (.lst (sel.filterMap id))) :=
  .of (pe_lc (g := canGb X scope tg) (tt := canTb X scope c) (te := canEb X scope elt) hc hN canI_ok ok (fun s H C cl fp => ⟨fun pins sh σ H v u Q I r h => h s _ C cl fp pins sh u I r⟩) (fun s H C cl fp => pts_one ⟨fun pins sh σ H Q I h => h s _ C cl fp pins sh I⟩) (fun s H C cl fp => ⟨fun pins sh σ H Q I h => h s _ C cl fp pins sh I⟩) hfs) fun fm L O σ H Q W tk s q =>
    lc_read hi hl hz (fun i d o h1 h2 => by
      obtain ⟨js, Δ'', k, hj, hg, hk, he, hn⟩ := ht i d o h1 h2
      exact turn_if hj hg hk he hn) fm L O σ H Q W tk s q
/-- name = [elt for tg in iter] -/
theorem psd_setLc (i : Nat) {y : Str} {py spos : Pos} {scope : Scope} {own : List (Str × Nat)} {tg iter elt : Expr} {items outs : List Dt} (hc : X.calm = true) (hN : X.N.Nodup) (ok : BlkOk X.N X.env.scope scope own) (hi : PID X T Δ tg iter items) (hl : outs.length = items.length) (hz : items.length < sizeLine)
    (ht : ∀ (i : Nat) (d o : Dt), items[i]? = some d → outs[i]? = some o → ∃ js Δ'', (∀ j ∈ js, j ∈ own.map (·.2)) ∧ InBlk X scope (fun X' => GD X' T tg d js (wipeD Δ (own.map (·.2))) Δ'') ∧ InBlk X scope (fun X' => PD X' T Δ'' elt o))
    (h : ∀ l, P.nx (Δ.set i (some (.own l false (.lst outs))))) (hil : i < Δ.length := by exact of_decide_eq_true rfl) (hy : X.N[i]? = some y := by rfl) (hyl : X.env.scope.names.lookup y = some .local := by rfl) (hsw : swapsWith (.ListComp elt [⟨tg, iter, [], 0⟩] scope pos) (some (.Name y py)) spos.line X.env = pure true := by exact sw_true rfl rfl rfl (by decide +kernel))
    (hfs : ∀ x, foldedSetIterable iter X.env x = pure x := by intro _; rfl) : PSD X T Δ (.Assign [.Name y py] (.ListComp elt [⟨tg, iter, [], 0⟩] scope pos) spos) P :=
  .of (ps_setLc (g := canGb X scope tg) (tt := tYes) (te := canEb X scope elt) hc hN hy hyl hsw canI_ok ok (fun s H C cl fp => ⟨fun pins sh σ H v u Q I r h => h s _ C cl fp pins sh u I r⟩) (fun _ _ _ _ _ => pts_nil) (fun s H C cl fp => ⟨fun pins sh σ H Q I h => h s _ C cl fp pins sh I⟩) hfs) fun fm L O σ H D W tk s em =>
    lc_read hi (sel := outs.map some) (by rw [List.length_map]; exact hl) hz (fun i d o h1 h2 => by
      rw [List.getElem?_map] at h2
      cases ho : outs[i]? with
      | none => rw [ho] at h2; cases h2
      | some o' =>
        rw [ho] at h2
        cases h2
        obtain ⟨js, Δ'', hj, hg, he⟩ := ht i d o' h1 ho
        exact turn_all hj hg he) fm L O σ H _ W tk s (by
      rw [filterMap_some]
      exact fun p H2 hp g s2 ow => em.nx (p :: O) _ H2 _ (h p) (s.own_set hp s2 hil ow))
theorem psd_setLcIf (i : Nat) {y : Str} {py spos : Pos} {scope : Scope} {own : List (Str × Nat)} {tg iter elt : Expr} {items : List Dt} {sel : List (Option Dt)} (hc : X.calm = true) (hN : X.N.Nodup) (ok : BlkOk X.N X.env.scope scope own) (hi : PID X T Δ tg iter items) (hl : sel.length = items.length) (hz : items.length < sizeLine)
    (ht : ∀ (i : Nat) (d : Dt) (o : Option Dt), items[i]? = some d → sel[i]? = some o → ∃ js Δ'' k, (∀ j ∈ js, j ∈ own.map (·.2)) ∧ InBlk X scope (fun X' => GD X' T tg d js (wipeD Δ (own.map (·.2))) Δ'') ∧ InBlk X scope (fun X' => PTD X' T Δ'' c k) ∧ (k = true → ∃ d', o = some d' ∧ InBlk X scope (fun X' => PD X' T Δ'' elt d')) ∧ (k = false → o = none))
    (h : ∀ l, P.nx (Δ.set i (some (.own l false (.lst (sel.filterMap id)))))) (hil : i < Δ.length := by exact of_decide_eq_true rfl) (hy : X.N[i]? = some y := by rfl) (hyl : X.env.scope.names.lookup y = some .local := by rfl) (hsw : swapsWith (.ListComp elt [⟨tg, iter, [c], 0⟩] scope pos) (some (.Name y py)) spos.line X.env = pure true := by exact sw_true rfl rfl rfl (by decide +kernel))
    (hfs : ∀ x, foldedSetIterable iter X.env x = pure x := by intro _; rfl) : PSD X T Δ (.Assign [.Name y py] (.ListComp elt [⟨tg, iter, [c], 0⟩] scope pos) spos) P :=
  .of (ps_setLc (g := canGb X scope tg) (tt := canTb X scope c) (te := canEb X scope elt) hc hN hy hyl hsw canI_ok ok (fun s H C cl fp => ⟨fun pins sh σ H v u Q I r h => h s _ C cl fp pins sh u I r⟩) (fun s H C cl fp => pts_one ⟨fun pins sh σ H Q I h => h s _ C cl fp pins sh I⟩) (fun s H C cl fp => ⟨fun pins sh σ H Q I h => h s _ C cl fp pins sh I⟩) hfs) fun fm L O σ H D W tk s em =>
    lc_read hi hl hz (fun i d o h1 h2 => by
      obtain ⟨js, Δ'', k, hj, hg, hk, he, hn⟩ := ht i d o h1 h2
      exact turn_if hj hg hk he hn) fm L O σ H _ W tk s (fun p H2 hp g s2 ow => em.nx (p :: O) _ H2 _ (h p) (s.own_set hp s2 hil ow))
end
end DL

set_option Elab.async false
set_option linter.all false
set_option maxRecDepth 100000
set_option maxHeartbeats 2000000
/-! DL7: what is one's own, read; defs called by name; facts for everyday side questions. -/
namespace DL
open PySem PySem.Spec L2

/-- data that no list and no dict stands in -/
def imt : Nat → Dt → Bool
  | _, .non => true
  | _, .bl _ => true
  | _, .int _ => true
  | _, .str _ => true
  | _, .ty _ => true
  | n + 1, .tup a => a.all (imt n)
  | _, _ => false
def imtR (n : Nat) : Res → Bool
  | .val d => imt n d
  | .own (.lst ds) => ds.all (imt n)
  | .own (.dk kds) => kds.all fun p => imt n p.2
  | .own (.dt kds) => kds.all fun p => imt n p.2
  | .own (.ins _ fs) => fs.all fun p => imt n p.2
  | .exc _ => true
section
variable {X : Cx} {T : List Addr} {Δ : DEnv} {e a b c : Expr} {es : List Expr} {d d1 d2 d3 : Dt} {ds : List Dt} {r : Res} {pos p : Pos} {st : Stmt} {rest sts : List Stmt} {P : DE}
variable {K : PySem.W.Frag} {fm : Fm} {L : Lk} {O : List Addr} {σ : St} {H H' : Hp} {Q : VK} {W : WX} {D : Ends} {π : List (V × Dt)}
/-- only the tuples matter -/
theorem Rp.imt {F F' : Hp} (h : ∀ a xs, F a = some (.tup xs) → F' a = some (.tup xs)) : ∀ (n : Nat) {v : V} {d : Dt}, Rp K F v d → DL.imt n d = true → Rp K F' v d := by
  intro n
  induction n with
  | zero =>
    intro v d hr hi
    cases hr with
    | non => exact .non
    | bl b => exact .bl b
    | int i => exact .int i
    | str s => exact .str s
    | ty n => exact .ty n
    | _ => cases hi
  | succ n ih =>
    intro v d hr hi
    cases hr with
    | non => exact .non
    | bl b => exact .bl b
    | int i => exact .int i
    | str s => exact .str s
    | ty n => exact .ty n
    | tup g hl hh =>
      have hi : _ := List.all_eq_true.mp (show List.all _ (DL.imt n) = true from hi)
      exact .tup (h _ _ g) hl fun i x d a b => ih (hh i x d a b) (hi d (List.mem_of_getElem? b))
    | _ => cases hi
theorem RpA.imt {F F' : Hp} {vs : List V} (h : ∀ a xs, F a = some (.tup xs) → F' a = some (.tup xs)) {n : Nat} (hr : RpA K F vs ds) (hi : ds.all (DL.imt n) = true) : RpA K F' vs ds :=
  ⟨hr.len, fun i x d a b => (hr.at_ i x d a b).imt h n (List.all_eq_true.mp hi d (List.mem_of_getElem? b))⟩
theorem OwAt.notTup {l : Addr} {o : Ow} {F : Hp} (h : OwAt K F H l o) : ∀ xs, H l ≠ some (.tup xs) := fun xs z => by
  obtain ⟨u, hu, mu⟩ := h.there
  rw [z] at hu
  cases hu
  exact mu
/-- an expression that reads one's own thing as data -/
theorem pr_view (i : Nat) {l : Addr} {o : Ow} (n : Nat) (hi : Δ[i]? = some (some (.own l false o))) (h : PR X T (Δ.set i (some (.imm o.d))) e r) (hr : imtR n r = true) : PR X T Δ e r :=
  ⟨fun fm L O σ H Q W tk s q => by
    obtain ⟨h1, h2, h3⟩ := s.ow hi
    have sf := s.freeze hi fun F hF le => h3.rp (mask_le H O) (fun _ => trivial) hF le
    obtain ⟨hlT, hlL, hl0⟩ := s.own i l false o hi
    have memO : ∀ a, a ∈ (O.filter fun a => decide (a ≠ l)) ↔ a ∈ O ∧ a ≠ l := fun a => by simp [List.mem_filter]
    have tups : ∀ {H2 : Hp}, Gr T H H2 → ∀ (O1 : List Addr) a xs, (∀ b ∈ O1, b ∉ T → False ∨ b ∈ O1) → mask H2 (O.filter fun a => decide (a ≠ l)) a = some (.tup xs) → mask H2 O a = some (.tup xs) := fun {H2} g O1 a xs _ e => by
      obtain ⟨e1, e2⟩ := mask_some e
      by_cases ha : a ∈ O
      · have : a = l := Classical.byContradiction fun z => e2 ((memO a).mpr ⟨ha, z⟩)
        subst this
        obtain ⟨u, hu, mu⟩ := h3.there
        rw [g a _ hlT hu] at e1
        cases e1
        exact mu.elim
      · rw [mask_out ha]; exact e1
    refine h.run fm L _ σ H Q W tk sf ?_
    cases r with
    | val d => exact fun v H2 g s2 rv => q v H2 g (s.gr g s2.tab) (rv.imt (fun a xs e => tups g [] a xs (fun _ z => nomatch z) e) n hr)
    | own o2 =>
      intro p H2 hp g s2 ow
      obtain ⟨u, hu, mu⟩ := ow.there
      have sh : Sta X.K T fm L (p :: O) σ H2 Δ := s.own_hide hp g s2.tab ow.held
      have lp : l ≠ p := fun z => (s.new_apart hp).1 (z ▸ h2)
      have tups2 : ∀ a xs, mask H2 (p :: O.filter fun a => decide (a ≠ l)) a = some (.tup xs) → mask H2 (p :: O) a = some (.tup xs) := fun a xs e => by
        obtain ⟨e1, e2⟩ := mask_some e
        have hap : a ≠ p := fun z => e2 (by rw [z]; exact List.mem_cons_self)
        have := tups g [] a xs (fun _ z => nomatch z) (by rw [mask_out fun z => e2 (List.mem_cons_of_mem _ z)]; exact e1)
        obtain ⟨e3, e4⟩ := mask_some this
        rw [mask_out fun z => (List.mem_cons.mp z).elim hap e4]
        exact e3
      refine q p H2 hp g sh ?_
      cases o2 with
      | lst ds => obtain ⟨vs, a, b⟩ := ow; exact ⟨vs, a, b.imt tups2 hr⟩
      | dk kds => obtain ⟨vs, a, b⟩ := ow; exact ⟨vs, a, b.keys, b.vals.imt tups2 (n := n) (by rw [List.all_map]; exact hr)⟩
      | dt kds => obtain ⟨vs, a, b⟩ := ow; exact ⟨vs, a, b.keys, b.vals.imt tups2 (n := n) (by rw [List.all_map]; exact hr)⟩
      | ins C fs => obtain ⟨dx, vs, a, b⟩ := ow; exact ⟨dx, vs, a, b.keys, b.vals.imt tups2 (n := n) (by rw [List.all_map]; exact hr)⟩
    | exc C => exact fun H2 g s2 => q H2 g (s.gr g s2.tab)⟩
theorem ptd_view (i : Nat) {l : Addr} {o : Ow} {k : Bool} (hi : Δ[i]? = some (some (.own l false o))) (h : PTD X T (Δ.set i (some (.imm o.d))) e k) : PTD X T Δ e k :=
  ⟨fun fm L O σ H Q W tk s q => by
    obtain ⟨h1, h2, h3⟩ := s.ow hi
    exact h.run fm L _ σ H Q W tk (s.freeze hi fun F hF le => h3.rp (mask_le H O) (fun _ => trivial) hF le) fun H2 g s2 => q H2 g (s.gr g s2.tab)⟩

/-- a statement, then the rest from a word between them -/
theorem psd_cut (M : DEnv → Prop) (h : PSD X T Δ st { P with nx := M }) (k : ∀ Δ', M Δ' → PSsD X T Δ' rest P) : PSsD X T Δ (st :: rest) P :=
  psd_cons ⟨fun fm L O σ H D W tk s em => h.run fm L O σ H D W tk s ⟨fun O σ H Δ m => em.nx O σ H Δ (k Δ m), em.rt, em.ro, em.bk, em.ct, em.ex⟩⟩
theorem pd_strE {x : Str} {l : List Nat} {j pos} (h : x.cps.toList = l) : PD X T Δ (.Constant (.str x) j pos) (.str l) := by rw [← h]; exact pd_str
theorem map_get2 {α : Type} {l : List α} {f : α → Dt} {g : α → Dt} {i : Nat} {d o : Dt} (h1 : (l.map f)[i]? = some d) (h2 : (l.map g)[i]? = some o) : ∃ x, l[i]? = some x ∧ d = f x ∧ o = g x := by
  rw [List.getElem?_map] at h1 h2
  cases h : l[i]? with
  | none => rw [h] at h1; cases h1
  | some x =>
    rw [h] at h1 h2
    cases h1; cases h2
    exact ⟨x, rfl, rfl, rfl⟩
theorem map_get {α : Type} {l : List α} {f : α → Dt} {i : Nat} {d : Dt} (h1 : (l.map f)[i]? = some d) : ∃ x, l[i]? = some x ∧ d = f x := by
  rw [List.getElem?_map] at h1
  cases h : l[i]? with
  | none => rw [h] at h1; cases h1
  | some x => rw [h] at h1; cases h1; exact ⟨x, rfl, rfl⟩
theorem rangeN_get2 {n i : Nat} {g : Nat → Dt} {d o : Dt} (h1 : (rangeN n)[i]? = some d) (h2 : ((List.range n).map g)[i]? = some o) : i < n ∧ d = .int ((i : Nat) : Int) ∧ o = g i := by
  obtain ⟨h3, h4⟩ := rangeN_get h1
  refine ⟨h3, h4, ?_⟩
  rw [List.getElem?_map, List.getElem?_range h3] at h2
  cases h2; rfl
theorem deq_lst {n : Nat} {a b : List Dt} : deq (n + 1) (.lst a) (.lst b) = (decide (a.length = b.length) && (a.zip b).all fun p => deq n p.1 p.2) := eqvAll_map
theorem deq_tup {n : Nat} {a b : List Dt} : deq (n + 1) (.tup a) (.tup b) = (decide (a.length = b.length) && (a.zip b).all fun p => deq n p.1 p.2) := eqvAll_map
theorem deq_lst_nil {n : Nat} {a : List Dt} : deq (n + 1) (.lst a) (.lst []) = a.isEmpty := by
  rw [deq_lst]
  cases a <;> simp
theorem gd_lst {n : Nat} {a : List Dt} (h : ∀ d ∈ a, gd n d = true) : gd (n + 1) (.lst a) = true := List.all_eq_true.mpr h
theorem gd_tup' {n : Nat} {a : List Dt} (h : ∀ d ∈ a, gd n d = true) : gd (n + 1) (.tup a) = true := List.all_eq_true.mpr h
theorem gd_str {n : Nat} {s : List Nat} (h : ∀ c ∈ s, c < 1000) : gd n (.str s) = true := by
  have : (s.all fun c => decide (c < 1000)) = true := List.all_eq_true.mpr fun c hc => decide_eq_true (h c hc)
  cases n <;> exact this
theorem gd_int {n : Nat} {i : Int} : gd n (.int i) = true := by cases n <;> rfl
theorem gd_non {n : Nat} : gd n .non = true := by cases n <;> rfl
theorem gd_bl {n : Nat} {b : Bool} : gd n (.bl b) = true := by cases n <;> rfl
theorem gd_up : ∀ (n : Nat) {d : Dt}, gd n d = true → gd (n + 1) d = true := by
  intro n
  induction n with
  | zero =>
    intro d h
    cases d with
    | tup a => cases h
    | lst a => cases h
    | _ => exact h
  | succ n ih =>
    intro d h
    cases d with
    | tup a => exact List.all_eq_true.mpr fun x hx => ih (List.all_eq_true.mp (show a.all (gd n) = true from h) x hx)
    | lst a => exact List.all_eq_true.mpr fun x hx => ih (List.all_eq_true.mp (show a.all (gd n) = true from h) x hx)
    | _ => exact h

/-! ### defs by name -/
structure Callee (P : Program) (w : World) (K : PySem.W.Frag) (mg : Str → Option Value) (base : Heap) (T : List Addr) (x : Str) (k : Nat) (ps : List Str) (Fn : List Dt → Res → Prop) : Prop where
  ex : ∃ f fd, FnD P w K mg base T k f fd ps Fn ∧ mg x = some (.ref f) ∧ PySem.W.keepIn K (.ref f) = true ∧ Binds K fd ps []
theorem pr_calln {x : Str} {ps : List Str} {k : Nat} {Fn : List Dt → Res → Prop} (G : Callee X.prog X.w X.K X.mg X.base T x k ps Fn) (hr : Room k X.A) (ha : PAD X T Δ (e :: es) ds) (hF : Fn ds r) (hlen : ds.length = ps.length := by rfl) (hg : Gl X x := by rfl) (hdb : (x == ("__debug__" : Str)) = false := by decide)
    (he : starEach (e :: es) X.env = (false, eval e X.env) :: starEach es X.env := by rfl) (hpl : (backTo pos (starEach es X.env)).any (·.1) = false := by rfl) : PR X T Δ (.Call (.Name x p) (e :: es) [] pos) r := by
  obtain ⟨f, fd, h1, h2, h3, h4⟩ := G.ex
  exact pr_call h1 hr h2 h3 h4 ha hF hlen hg hdb he hpl

theorem cm_l {i j : Int} (h1 : -(2 ^ 64) < i := by decide) (h2 : i < 2 ^ 64 := by decide) : CMul i j := .inl ⟨h1, h2⟩
theorem cm_r {i j : Int} (h1 : -(2 ^ 64) < j := by decide) (h2 : j < 2 ^ 64 := by decide) : CMul i j := .inr ⟨h1, h2⟩
theorem atI_getD {α : Type} {l : List α} {i : Int} (z : α) (h0 : 0 ≤ i) (h1 : i < l.length) : L2.atI l i = some (l.getD i.toNat z) := by
  obtain ⟨n, rfl⟩ : ∃ n : Nat, i = n := ⟨i.toNat, by omega⟩
  have hn : n < l.length := by omega
  rw [atI_nat (List.getElem?_eq_getElem hn)]
  simp [hn]
theorem dix_l {l : List Dt} {i : Int} (z : Dt) (h0 : 0 ≤ i) (h1 : i < l.length) : dIx (.lst l) i = some (l.getD i.toNat z) := atI_getD z h0 h1
theorem dix_map {α : Type} {l : List α} {f : α → Dt} {i : Int} {x : α} (h0 : 0 ≤ i) (hx : l[i.toNat]? = some x) : dIx (.lst (l.map f)) i = some (f x) := by
  have hn := (List.getElem?_eq_some_iff.mp hx).1
  rw [dix_l (f x) h0 (by rw [List.length_map]; omega)]
  simp [List.getD, hx]
theorem dix_ints {l : List Int} {i : Int} (h0 : 0 ≤ i) (h1 : i < l.length) : dIx (.lst (l.map .int)) i = some (.int (l.getD i.toNat 0)) := by
  rw [dix_l (.int 0) h0 (by simpa using h1)]
  have hn : i.toNat < l.length := by omega
  simp [List.getD, hn]
theorem dix_str {l : List Nat} {i : Int} (h0 : 0 ≤ i) (h1 : i < l.length) : dIx (.str l) i = some (.str [l.getD i.toNat 0]) := by
  show (L2.atI l i).map _ = _
  rw [atI_getD 0 h0 h1]
  rfl
theorem dix_strs {l : List (List Nat)} {i : Int} (h0 : 0 ≤ i) (h1 : i < l.length) : dIx (.lst (l.map .str)) i = some (.str (l.getD i.toNat [])) := by
  rw [dix_l (.str []) h0 (by simpa using h1)]
  have hn : i.toNat < l.length := by omega
  simp [List.getD, hn]
theorem dix_scr {l : List Int} {i : Int} (h0 : 0 ≤ i) (h1 : i < l.length) : dIx (.scr l) i = some (.int (l.getD i.toNat 0)) := by
  show (L2.atI l i).map _ = _
  rw [atI_getD 0 h0 h1]
  rfl
end
/-- the law's own promise -/
def spLaw (K : PySem.W.Frag) (T : List Addr) : Sp := fun vs H Q _ => (∀ P ∈ T, GxR.TabG H P) ∧ ∃ (a : Addr) (ns : List Int), vs = [.ref a] ∧ SqL K H a (ns.map V.int) ∧ ns.length ≤ 63 ∧ ∀ H', Q (.bl true) H'
inductive LawF : List Dt → Res → Prop where
  | mk (ns : List Int) (h : ns.length ≤ 63) : LawF [.scr ns] (.val (.bl true))
theorem sp_of_law {K : PySem.W.Frag} {T : List Addr} (vs : List V) (H : Hp) (Q : VK) (E : XK) (h : spLaw K T vs H Q E) : spF T K 1 LawF vs H Q E := by
  obtain ⟨ht, a, ns, rfl, hs, hl, q⟩ := h
  refine ⟨rfl, T, [.scr ns], .val (.bl true), ⟨fun _ h => h, ht, fun P hP => ?_⟩, .cons (.scr ?_) .nil, ?_, fun v H2 _ _ rv => ?_⟩
  · obtain ⟨ps, e, _⟩ := ht P hP
    exact .of e fun _ z => nomatch z
  · rcases hs with (hs | ⟨o, hs⟩) | hs
    · refine .inl (.inl ?_)
      rw [mask_out fun z => ?_]
      · exact hs
      · obtain ⟨ps, e, _⟩ := ht a z
        rw [hs] at e; cases e
    · refine .inl (.inr ⟨o, ?_⟩)
      rw [mask_out fun z => ?_]
      · exact hs
      · obtain ⟨ps, e, _⟩ := ht a z
        rw [hs] at e; cases e
    · exact .inr hs
  · exact .mk ns hl
  · rw [rv.bl_of]
    exact q H2
end DL

set_option Elab.async false
set_option linter.all false
set_option maxRecDepth 100000
set_option maxHeartbeats 2000000
/-! LM: what the laws' own helpers make, as functions. -/
namespace LM
open PySem PySem.Spec L2 DL

/-- a rule -/
structure Rl where
  s : Int
  g : Nat
  t : Int
  p : List Nat
def rlD (r : Rl) : Dt := .tup [.int r.s, .str [r.g], .int r.t, .str r.p]
def cell (ns : List Int) (k : Nat) : Int := ns.getD k 0
def abc : List Nat := (List.range 26).map (97 + ·)
def sgn (c : Int) : Nat := abc.getD (c % 26).toNat 0
def sg3 (c : Int) : List Nat := [sgn c, sgn (c + 1 + c / 26 % 12), sgn (c + 13 + c / 312 % 12)]
def mixed (c : Int) (k : Nat) : Int := (c + 7919 * (k : Int) * (k : Int) + 104729 * (k : Int)) * 48271 % 2147483647 * 69621 % 2147483629
def some5 (l : List Nat) : List Nat := [l.getD 0 0, l.getD 0 0, l.getD 1 0, l.getD 1 0, l.getD 2 0]
def pushN (c : Int) : Nat := ([0, 0, 1, 1, 1, 2, 2, 2] : List Nat).getD (c / 125 % 8).toNat 0
def lawRl (c many : Int) (l : List Nat) : Rl where
  s := c % many
  g := (some5 l).getD (c / 5 % 5).toNat 0
  t := c / 25 % many
  p := (List.range (pushN c)).map fun (k : Nat) => (some5 l).getD (c / (1000 + 4000 * (k : Int)) % 5).toNat 0
theorem pushN_le (c : Int) : pushN c ≤ 2 := by
  unfold pushN
  have h0 : 0 ≤ c / 125 % 8 := Int.emod_nonneg _ (by decide)
  have h1 : c / 125 % 8 < 8 := Int.emod_lt_of_pos _ (by decide)
  generalize (c / 125 % 8) = i at *
  obtain ⟨n, rfl⟩ : ∃ n : Nat, i = n := ⟨i.toNat, by omega⟩
  have hn : n < 8 := by omega
  match n, hn with
  | 0, _ => decide
  | 1, _ => decide
  | 2, _ => decide
  | 3, _ => decide
  | 4, _ => decide
  | 5, _ => decide
  | 6, _ => decide
  | 7, _ => decide
theorem lawRl_p (c many : Int) (l : List Nat) : (lawRl c many l).p.length ≤ 2 := by
  unfold lawRl
  simp only [List.length_map, List.length_range]
  exact pushN_le c
theorem sgn_lt (c : Int) : 97 ≤ sgn c ∧ sgn c < 123 := by
  unfold sgn abc
  have h0 : 0 ≤ c % 26 := Int.emod_nonneg _ (by decide)
  have h1 : c % 26 < 26 := Int.emod_lt_of_pos _ (by decide)
  generalize (c % 26) = i at *
  obtain ⟨n, rfl⟩ : ∃ n : Nat, i = n := ⟨i.toNat, by omega⟩
  have hn : n < 26 := by omega
  simp [List.getD, hn]
  try omega
theorem some5_mem {l : List Nat} {P : Nat → Prop} (h0 : P (l.getD 0 0)) (h1 : P (l.getD 1 0)) (h2 : P (l.getD 2 0)) (hz : P 0 ∨ True) (i : Nat) (hi : i < 5) : P ((some5 l).getD i 0) := by
  match i, hi with
  | 0, _ => exact h0
  | 1, _ => exact h0
  | 2, _ => exact h1
  | 3, _ => exact h1
  | 4, _ => exact h2
/-- one step of a machine -/
def stepD (r : Rl) (a : Int) (pl : List Nat) : Dt := if a = r.s ∧ pl.head? = some r.g then .tup [.int r.t, .str (r.p ++ pl.tail)] else .non
/-- a text of small signs -/
def OkS (l : List Nat) : Prop := ∀ c ∈ l, c < 1000
structure RlOk (r : Rl) : Prop where
  g : r.g < 1000
  p : OkS r.p
  l : r.p.length ≤ 2
theorem gd_rlD {r : Rl} (h : RlOk r) : gd 2 (rlD r) = true := gd_tup' fun d hd => by
  rcases List.mem_cons.mp hd with z | hd
  · rw [z]; exact gd_int
  rcases List.mem_cons.mp hd with z | hd
  · rw [z]; exact gd_str fun c hc => by rw [List.mem_singleton.mp hc]; exact h.g
  rcases List.mem_cons.mp hd with z | hd
  · rw [z]; exact gd_int
  · rw [List.mem_singleton.mp hd]; exact gd_str h.p
theorem ok_sg3 (c : Int) : OkS (sg3 c) := fun x hx => by
  unfold sg3 at hx
  have h := fun c => (sgn_lt c).2
  rcases List.mem_cons.mp hx with z | hx
  · rw [z]; have := h c; omega
  rcases List.mem_cons.mp hx with z | hx
  · rw [z]; have := h (c + 1 + c / 26 % 12); omega
  · rw [List.mem_singleton.mp hx]; have := h (c + 13 + c / 312 % 12); omega
theorem getD_ok {l : List Nat} (h : OkS l) (i : Nat) : l.getD i 0 < 1000 := by
  rw [List.getD_eq_getElem?_getD]
  cases e : l[i]? with
  | none => decide
  | some x => exact h x (List.mem_of_getElem? e)
theorem some5_ok {l : List Nat} (h : OkS l) : OkS (some5 l) := fun x hx => by
  unfold some5 at hx
  simp only [List.mem_cons, List.not_mem_nil, or_false] at hx
  rcases hx with z | z | z | z | z <;> (rw [z]; exact getD_ok h _)
theorem lawRl_ok {c many : Int} {l : List Nat} (h : OkS l) : RlOk (lawRl c many l) :=
  ⟨getD_ok (some5_ok h) _, fun x hx => by
    obtain ⟨k, _, rfl⟩ := List.mem_map.mp hx
    exact getD_ok (some5_ok h) _, lawRl_p c many l⟩
/-- does the rule go -/
def goes (r : Rl) (a : Int) (pl : List Nat) : Bool := decide (a = r.s) && decide (pl.head? = some r.g)
def behind (r : Rl) (pl : List Nat) : Dt := .tup [.int r.t, .str (r.p ++ pl.tail)]
theorem stepD_eq (r : Rl) (a : Int) (pl : List Nat) : stepD r a pl = if goes r a pl = true then behind r pl else .non := by
  unfold stepD goes behind
  by_cases h1 : a = r.s <;> by_cases h2 : pl.head? = some r.g <;> simp [h1, h2]
/-- the pairs of number and spot behind, of the first n rules -/
def nextsUp (rs : List Rl) (a : Int) (pl : List Nat) (n : Nat) : List Dt := (List.range n).flatMap fun i => match rs[i]? with
  | some r => if goes r a pl = true then [.tup [.int ((i : Nat) : Int), behind r pl]] else []
  | none => []
theorem nextsUp_succ {rs : List Rl} {a : Int} {pl : List Nat} {i : Nat} {r : Rl} (h : rs[i]? = some r) : nextsUp rs a pl (i + 1) = nextsUp rs a pl i ++ if goes r a pl = true then [.tup [.int ((i : Nat) : Int), behind r pl]] else [] := by
  unfold nextsUp
  rw [List.range_succ, List.flatMap_append]
  simp [h]
theorem nextsUp_len (rs : List Rl) (a : Int) (pl : List Nat) (n : Nat) : (nextsUp rs a pl n).length ≤ n := by
  induction n with
  | zero => exact Nat.le_refl _
  | succ n h =>
    have e : nextsUp rs a pl (n + 1) = nextsUp rs a pl n ++ (match rs[n]? with
      | some r => if goes r a pl = true then [.tup [.int ((n : Nat) : Int), behind r pl]] else []
      | none => []) := by
      unfold nextsUp
      rw [List.range_succ, List.flatMap_append]
      simp only [List.flatMap_cons, List.flatMap_nil, List.append_nil]
    rw [e, List.length_append]
    have : (match rs[n]? with
      | some r => if goes r a pl = true then [Dt.tup [.int ((n : Nat) : Int), behind r pl]] else []
      | none => ([] : List Dt)).length ≤ 1 := by
      split
      · split <;> simp
      · simp
    omega
theorem nextsUp_mem {rs : List Rl} {a : Int} {pl : List Nat} {n : Nat} {d : Dt} (h : d ∈ nextsUp rs a pl n) : ∃ (i : Nat) (r : Rl), rs[i]? = some r ∧ goes r a pl = true ∧ d = .tup [.int ((i : Nat) : Int), behind r pl] := by
  unfold nextsUp at h
  obtain ⟨i, hi, hd⟩ := List.mem_flatMap.mp h
  split at hd
  · rename_i r hr
    split at hd
    · rename_i hg
      exact ⟨i, r, hr, hg, List.mem_singleton.mp hd⟩
    · cases hd
  · cases hd
theorem ok_app {a b : List Nat} (h : OkS a) (k : OkS b) : OkS (a ++ b) := fun c hc => (List.mem_append.mp hc).elim (h c) (k c)
theorem ok_tail {a : List Nat} (h : OkS a) : OkS a.tail := fun c hc => h c (List.mem_of_mem_tail hc)
theorem gd_behind {r : Rl} {pl : List Nat} (h : RlOk r) (k : OkS pl) : gd 1 (behind r pl) = true := gd_tup' fun d hd => by
  rcases List.mem_cons.mp hd with z | hd
  · rw [z]; exact gd_int
  · rw [List.mem_singleton.mp hd]; exact gd_str (ok_app h.p (ok_tail k))
theorem gd_nexts {rs : List Rl} {a : Int} {pl : List Nat} {n : Nat} (h : ∀ r ∈ rs, RlOk r) (k : OkS pl) : gd 3 (.lst (nextsUp rs a pl n)) = true := gd_lst fun d hd => by
  obtain ⟨i, r, hr, _, rfl⟩ := nextsUp_mem hd
  refine gd_tup' fun e he => ?_
  rcases List.mem_cons.mp he with z | he
  · rw [z]; exact gd_int
  · rw [List.mem_singleton.mp he]; exact gd_behind (h r (List.mem_of_getElem? hr)) k
end LM

set_option Elab.async false
set_option linter.all false
set_option maxRecDepth 100000
set_option maxHeartbeats 2000000
/-! GX: all of a generator expression whose element is any expression of ours. -/
namespace GX
open PySem PySem.Spec PyProof.Rows L2

/-- the names of a generator's scope -/
structure GOk (N : List Str) (sc scope : Scope) (own : List (Str × Nat)) : Prop where
  kind : scope.kind = .function
  co : scope.isCoroutine = false
  cell : ∀ y ∈ scope.names, y.2 ≠ .cell
  dot : scope.names.lookup (".0" : Str) = some NameKind.local
  uniq : ∀ y ∈ scope.names, scope.names.lookup y.1 = some y.2
  ix : ∀ p ∈ own, N[p.2]? = some p.1
  free : ∀ y ∈ scope.names, y.2 = .free → sc.names.lookup y.1 = some .cell ∨ sc.names.lookup y.1 = some .free
  own : ∀ y ∈ scope.names, y.2 = .local → y.1 ∈ own.map (·.1) ∨ y.1 ∉ N
abbrev gEnv (X : Cx) (scope : Scope) (C : Addr) (code : Value) : Env := genEnv scope (cloFrom X.env.cells scope.names []) C code builtinsNs X.env
/-- the context of a generator's frame -/
abbrev gX (X : Cx) (s : Shared) (H : Hp) (scope : Scope) (C : Addr) (code : Value) (fp : List Addr) : Cx :=
  { X with A := X.A.in1.in1.deeper (gEnv X scope C code), s_0 := s, H_0 := H, env := gEnv X scope C code, outer := X.stack, stack := gEnv X scope C code :: X.stack, ex := fp, fn := fun _ => false, calm := true, pn := [], xe := fun _ _ => False }
section
variable {X : Cx} {pins : List (Addr × Obj)} {σ : L2.St} {H : Hp} {s s' : Shared}

theorem inv_sim (I : Inv X pins σ H s) (ho : s'.os = s.os) (hg : AllBare s'.gens) (k : ∀ b o, s.heap.get? b = some o → s'.heap.get? b = some o) : Inv X pins σ H s' := by
  have J := I.step (h' := s'.heap) (H' := H) (g' := s'.gens) (d' := s'.drawn) (t' := s'.toks) (ch := []) (fun b hb => absurd hb (by simp)) (fun b o _ _ _ e _ => k b o e) (fun b o _ _ _ e _ => ⟨o.slots, k b o e⟩)
    (fun _ _ _ _ n => n) (fun b o _ e => ⟨o, k b o e⟩) (fun _ _ e => e) (fun _ _ _ e => e) (fun b ps e => ⟨#[], by rw [e]; simp⟩) (fun m hm => hm.keeps k) (I.hok.kept k) hg
  rw [GxR.sh_eta s s' ho] at J
  exact J
theorem bare_set {g : Nat} {x : GenState} (h : AllBare s.gens) (hx : x.bare = true) : AllBare (s.setGen g x).gens := by
  intro y hy
  obtain ⟨i, hi⟩ := Array.mem_iff_getElem?.mp hy
  simp only [Shared.setGen, Array.getElem?_setIfInBounds] at hi
  split at hi
  · split at hi
    · cases hi; exact hx
    · cases hi
  · exact h y (Array.mem_of_getElem? hi)
theorem inv_set {g : Nat} {x : GenState} (I : Inv X pins σ H s) (hx : x.bare = true) : Inv X pins σ H (s.setGen g x) := inv_sim I rfl (bare_set I.bare hx) fun _ _ e => e

/-- the generator's frame stands -/
theorem gen_start {scope : Scope} {own : List (Str × Nat)} {fp : List Addr} {it code : Value} {h' : Heap} {go : Obj} {gs : GenState} {tk : Nat} (I : Inv X pins σ H s) (hd : X.A.handled = none) (ok : GOk X.N X.env.scope scope own) (hN : X.N.Nodup) (hfp : ∀ b ∈ fp, FpOk X pins H b ∧ b < s.heap.objs.size)
    (hn : h'.Ns s.heap.objs.size (fun y => if y = ".0" then some it else none)) (hs : Heap.SameBut s.heap.objs.size (s.heap.push { cls := .type "frame", data := .dict #[] }) h') (hgo : ∀ v, go.data ≠ .cell v) (hgf : go.isFreed = false) (hb : gs.bare = true) :
    Inv (gX X s H scope s.heap.objs.size code fp) [(h'.objs.size, go)] (wipe σ (own.map (·.2))) H { s with gens := s.gens.push gs, toks := tk, heap := h'.push go } := by
  have hfree : ∀ y ∈ scope.names, y.2 = .free → ∃ c, X.env.cells.lookup y.1 = some c := fun y hy e => by
    rcases ok.free y hy e with k | k
    · exact I.ok.has _ (.inl k)
    · exact I.ok.has _ (.inr k)
  generalize hcenv : gEnv X scope s.heap.objs.size code = cenv
  have hsz : h'.objs.size = s.heap.objs.size + 1 := by rw [hs.1, Heap.size_push]
  have kp0 : ∀ b o, s.heap.get? b = some o → h'.get? b = some o := fun b o e => hs.extBut b o (Nat.ne_of_lt (Heap.lt_size e)) (Heap.get?_push_of_some _ e)
  have kp : ∀ b o, s.heap.get? b = some o → (h'.push go).get? b = some o := fun b o e => Heap.get?_push_of_some _ (kp0 b o e)
  have hL : cenv.locals = s.heap.objs.size := by rw [← hcenv]; rfl
  have hcl : cenv.cells = cloFrom X.env.cells scope.names [] := by rw [← hcenv]; rfl
  have hsc : cenv.scope = scope := by rw [← hcenv]; rfl
  have cm : ∀ {y c}, (y, c) ∈ cloFrom X.env.cells scope.names [] → X.env.cells.lookup y = some c ∧ c < s.heap.objs.size := fun {y c} hm => by
    rcases cloFrom_mem hm with hm | ⟨h1, rfl⟩
    · cases hm
    · obtain ⟨c, hc⟩ := hfree _ h1 rfl
      rw [hc]
      obtain ⟨w, z⟩ := I.cell _ _ hc
      exact ⟨rfl, z.lt⟩
  have mem : ∀ {y c}, cenv.cells.lookup y = some c → X.env.cells.lookup y = some c ∧ c < s.heap.objs.size := fun {y c} e => by
    rw [hcl] at e
    exact cm (PySem.mem_of_lookup e)
  have look : ∀ {y}, scope.names.lookup y = some .free → ∃ c, cenv.cells.lookup y = some c ∧ X.env.cells.lookup y = some c := fun {y} hl => by
    have hy : (y, NameKind.free) ∈ scope.names := PySem.mem_of_lookup hl
    obtain ⟨c', e'⟩ := mem_lookup (cloFrom_has (cells := X.env.cells) (acc := []) hy)
    rw [← hcl] at e'
    exact ⟨c', e', (mem e').1⟩
  have okB : (gX X s H scope s.heap.objs.size code fp).Ok := by
    show Cx.Ok { X with A := X.A.in1.in1.deeper (gEnv X scope s.heap.objs.size code), s_0 := s, H_0 := H, env := gEnv X scope s.heap.objs.size code, outer := X.stack, stack := gEnv X scope s.heap.objs.size code :: X.stack, ex := fp, fn := fun _ => false, calm := true, pn := [], xe := fun _ _ => False }
    rw [hcenv]
    refine ⟨I.ok.mod, by show cenv.scope.kind = _; rw [hsc]; exact ok.kind, by show cenv.globals = _; rw [← hcenv]; exact I.ok.glob, by show cenv.builtins = _; rw [← hcenv]; rfl, by show s.heap.objs.size ≤ cenv.locals; rw [hL]; exact Nat.le_refl _,
      fun y z c e1 e2 => ?_, fun y hy => ?_, (fun y c z e => nomatch z), fun _ => hd, ?_, .inr ⟨rfl, by rw [← hcenv]; rfl⟩, fun b hb => ⟨?_, fun y c e z => ?_⟩, I.bs, Nat.le_trans I.ok.bsz I.sz, fun b o e hb => ?_, fun b hb z => ?_, I.stack, I.stkFree⟩
    · exact I.ok.inj y z c (mem e1).1 (mem e2).1
    · show ∃ c, cenv.cells.lookup y = some c
      rcases hy with hy | hy
      · exfalso
        have hy : cenv.scope.names.lookup y = some .cell := hy
        rw [hsc] at hy
        exact ok.cell _ (PySem.mem_of_lookup hy) rfl
      · have hy : cenv.scope.names.lookup y = some .free := hy
        rw [hsc] at hy
        obtain ⟨c, h1, _⟩ := look hy
        exact ⟨c, h1⟩
    · show pushEnvs [cenv] X.A.frames = some (cenv :: X.stack)
      rw [I.ok.frames]
      rfl
    · show b ≠ cenv.locals
      rw [hL]; exact Nat.ne_of_lt (hfp b hb).2
    · exact (hfp b hb).1.2.2.2.2.1 y c (mem e).1 z
    · rcases (hfp b hb).1.2.2.2.1 with z | z
      · exact I.ok.noex b o e z
      · exact absurd (Nat.lt_of_lt_of_le (Heap.lt_size e) (Nat.le_trans I.ok.bsz z)) (Nat.lt_irrefl _)
    · rcases List.mem_cons.mp (I.stkSub b z) with z | z
      · exact (hfp b hb).1.2.1 z
      · exact (hfp b hb).1.2.2.1 z
  have hcenv2 : gEnv X scope s.heap.objs.size code = cenv := hcenv
  refine ⟨okB, rfl, I.bare.push hb, Un.kept kp, ⟨_, hn.push _, fun i y av e1 e2 e3 => ?_⟩, fun y c e => ?_, ?_, fun y c e => ?_, fun p hp => ?_, I.hok.kept kp, by rw [wipe_length]; exact I.len⟩
  · obtain ⟨e2, hne⟩ := wipe_some e2
    have e3 : Vis scope y := e3
    have hfr : scope.names.lookup y = some .free := by
      rcases e3 with e3 | e3 | e3
      · exfalso
        rcases ok.own _ (PySem.mem_of_lookup e3) rfl with e' | e'
        · obtain ⟨p, hp, hpy⟩ := List.mem_map.mp e'
          have e4 := ok.ix p hp
          have : p.1 = y := hpy
          rw [this] at e4
          exact hne (List.mem_map.mpr ⟨p, hp, nodup_ix hN e4 e1⟩)
        · exact e' (List.mem_of_getElem? e1)
      · exact absurd rfl (ok.cell _ (PySem.mem_of_lookup e3))
      · exact e3
    obtain ⟨m, hn', hl⟩ := I.loc
    have hvis : Vis X.env.scope y := (ok.free _ (PySem.mem_of_lookup hfr) rfl).elim (fun k => .inr (.inl k)) (fun k => .inr (.inr k))
    obtain ⟨w, r, q⟩ := hl i y av e1 e2 hvis
    refine ⟨w, r, .inr ⟨.inr hfr, ?_⟩⟩
    obtain ⟨c, h1, h2⟩ := look hfr
    rcases q with ⟨k, _⟩ | ⟨_, c', e', z⟩
    · have k : X.env.scope.names.lookup y = some .local := k
      rcases ok.free _ (PySem.mem_of_lookup hfr) rfl with k' | k' <;> rw [show X.env.scope.names.lookup y = _ from k'] at k <;> cases k
    · rw [h2] at e'; cases e'
      exact ⟨c, by rw [← hcenv] at h1; exact h1, z.keeps kp⟩
  · obtain ⟨h1, _⟩ := mem (y := y) (c := c) (by rw [← hcenv]; exact e)
    obtain ⟨w, z⟩ := I.cell y c h1
    exact ⟨w, z.keeps kp⟩
  · exact I.hok.fresh (Nat.le_refl _)
  · obtain ⟨h1, _⟩ := mem (y := y) (c := c) (by rw [← hcenv]; exact e)
    exact I.freeC y c h1
  · have hp : p ∈ [(h'.objs.size, go)] := hp
    rw [List.mem_singleton.mp hp]
    refine ⟨Heap.get?_push_size _ hgf, I.hok.fresh (by rw [hsz]; exact Nat.le_succ _), ?_, fun z => ?_, hgo⟩
    · show h'.objs.size ≠ s.heap.objs.size
      rw [hsz]; exact Nat.succ_ne_self _
    · have z : h'.objs.size ∈ frs X.stack := z
      rcases List.mem_cons.mp (I.stkSub _ z) with z | z
      · have := I.lt
        rw [← z, hsz] at this
        exact absurd this (Nat.not_lt_of_le (Nat.le_succ _))
      · exact I.nofs (by rw [hsz]; exact Nat.le_succ _) z

/-- what is wanted of all(elt for tg in iter) -/
def tAllG (P : Addr) (wi : TI) (g : TG) (te : TE) (vs : List Nat) : TE := fun σ H Q => wi σ H fun J H1 => GxR.TabG H1 P ∧ ∀ H2, GxR.Tabbed P H1 H2 → ∃ W : Nat → Nat → Hp → Prop, (∃ m, W 0 m H2) ∧ ∀ i m H, W i m H →
  (J.stop i H ∧ Q (.bl true) H) ∨ (J.go i H ∧ ∃ Nx : Hp → Prop, (∀ H', Nx H' → ∃ m', m' < m ∧ W (i + 1) m' H') ∧ ∀ x H', J.yld i H x H' → g x (wipe σ vs) H' fun σ2 H2 => wipe σ2 vs = wipe σ vs ∧ te σ2 H2 fun y H3 => ∃ b, y = .bl b ∧ if b = true then Nx H3 else Q (.bl false) H3)

abbrev gCode (elt tg iter : Expr) (scope : Scope) (gpos : Pos) (it : Addr) (cenv : Env) : Code := .compLoop (.GeneratorExp elt [⟨tg, iter, [], 0⟩] scope gpos) 0 (.ref it) .none cenv
/-- the end of the generator, a value from it -/
def gR (Xg : Cx) (pins : List (Addr × Obj)) (σ : L2.St) (Q : VK) : GenEnd := fun _ _ r s => r = .ok .next ∧ ∃ H, Inv Xg pins σ H s ∧ Q (.bl true) H
def gY (Xg : Cx) (pins : List (Addr × Obj)) (σ : L2.St) (Q : VK) : Protocol := fun _ _ v s kap => ∃ b, v = .bool b ∧ ∃ H, Inv Xg pins σ H s ∧ (b = false → Q (.bl false) H) ∧
  (b = true → ∀ s'' : Shared, s''.os = s.os → AllBare s''.gens → (∀ b o, s.heap.get? b = some o → s''.heap.get? b = some o) → kap (.send .none) s'')

theorem seg_all {Xg : Cx} {Ag : Around} {elt tg iter : Expr} {scope : Scope} {gpos : Pos} {it : Addr} {fp : List Addr} {tn : Nat → Heap → Prop} {J : It} {g : TG} {te : TE} {vs : List Nat} {W : Nat → Nat → Hp → Prop} {Q : VK} {s_ : L2.St}
    (hA : Xg.A = Ag.over (gCode elt tg iter scope gpos it Xg.env) []) (hc : Xg.calm = true) (hxe : Xg.xe = fun _ _ => False) (hco : Xg.env.scope.isCoroutine = false) (hpn : Xg.pn = []) (hex : Xg.ex = fp) (T : Turn Xg.prog Xg.w Xg.K tg J fp it tn) (pg : PG Xg tg g) (pe : PE Xg elt te)
    (hpf : ∀ p ∈ pins, ∀ b ∈ fp, p.1 ≠ b)
    (turn : ∀ i m H, W i m H → (J.stop i H ∧ Q (.bl true) H) ∨ (J.go i H ∧ ∃ Nx : Hp → Prop, (∀ H', Nx H' → ∃ m', m' < m ∧ W (i + 1) m' H') ∧ ∀ x H', J.yld i H x H' → g x (wipe s_ vs) H' fun σ2 H2 => wipe σ2 vs = wipe s_ vs ∧ te σ2 H2 fun y H3 => ∃ b, y = .bl b ∧ if b = true then Nx H3 else Q (.bl false) H3)) :
    ∀ (n i m : Nat) (H : Hp) (s₀ s : Shared), m < n → W i m H → Inv Xg pins (wipe s_ vs) H s → tn i s.heap → (∀ b ∈ fp, H b = none) →
      Seg (model Xg.prog Xg.w) Ag (gR Xg pins (wipe s_ vs) Q) (gY Xg pins (wipe s_ vs) Q) n s₀ (gCode elt tg iter scope gpos it Xg.env) ((model Xg.prog Xg.w).den (gCode elt tg iter scope gpos it Xg.env)) [] s := by
  have stat : ∀ {σ' : L2.St} {H' : Hp} {s' : Shared}, Inv Xg pins σ' H' s' → (∀ b ∈ fp, H' b = none) → ∀ b ∈ fp, FpOk Xg pins H' b := fun {σ' H' s'} I' hn b hb =>
    ⟨hn b hb, (I'.ok.exf b (by rw [hex]; exact hb)).1, I'.ok.exfs b (by rw [hex]; exact hb), .inl (by rw [hex]; exact hb), fun x c e => (I'.ok.exf b (by rw [hex]; exact hb)).2 x c e, fun p hp => by
      rw [hpn] at hp
      exact hpf p hp b hb⟩
  have noE : ∀ {α : Type} {t : Sem α} {Q1 Q2 : α → Shared → Prop} {A : Around} {E : Value → Shared → Prop} {s : Shared}, wpAny (model Xg.prog Xg.w) A t Q1 Xg.xe s → (∀ a s, Q1 a s → Q2 a s) → wpAny (model Xg.prog Xg.w) A t Q2 E s := fun h k => wpAny_mono h k fun _ _ z => by
    rw [hxe] at z
    exact z.elim
  intro n
  induction n with
  | zero => intro i m H s₀ s hm; exact absurd hm (Nat.not_lt_zero _)
  | succ n ih =>
    intro i m H s₀ s hm hw I st nf
    show Seg _ Ag _ _ _ s₀ _ ((compTurn (.GeneratorExp elt [⟨tg, iter, [], 0⟩] scope gpos) 0 (.ref it) .none Xg.env).onRaise (leaving Xg.env)) [] s
    rw [compTurn_gen, Sem.onRaise_eq_wrap]
    refine seg_bind_wrap (wpAny_standAt ?_)
    rcases turn i m H hw with ⟨stop, qq⟩ | ⟨go, Nx, hNx, step⟩
    · have td := T.done Xg rfl rfl rfl hc i pins s _ H (fun _ _ => False) I (stat I nf) st stop
      rw [hA] at td
      refine seg_bind_wrap (thnF td fun r s1 ⟨hr, I1⟩ => ?_)
      subst hr
      exact seg_end (.ok .next) ⟨rfl, H, I1, qq⟩
    · have ti := T.item Xg rfl rfl rfl hc i pins s _ H (fun _ _ => False) I (stat I nf) st go
      rw [hA] at ti
      refine seg_bind_wrap (thnF ti fun r s1 ⟨u, hr, h6⟩ => ?_)
      subst hr
      refine seg_bind_wrap (thnF h6 fun _ s2 ⟨x, H7, I7, r7, y7, st7, n7⟩ => ?_)
      have I7' := I7.pinned (stat I7 n7) (T.obj _ _ st7)
      have ag := pg.run _ s2 _ H7 x u _ I7' r7 (step x H7 y7)
      rw [hA] at ag
      refine seg_bind_wrap (noE ag fun _ s3 ⟨σ8, H8, I8, hw8, q8⟩ => ?_)
      refine seg_bind_wrap ?_
      simp only [List.forIn_nil]
      refine wpAny_pure ?_
      simp only [if_true]
      have hy : ∀ v, yieldOut Xg.env v = yieldValue v := fun v => by simp only [yieldOut, hco, Bool.false_eq_true, if_false]
      simp only [hy]
      rw [Sem.bind_eq_wrap', Sem.bind_eq_wrap', Sem.wrap_wrap, Sem.wrap_wrap]
      have ae := pe.run _ s3 σ8 H8 _ I8 q8
      rw [hA] at ae
      refine seg_wrap (noE ae fun y s4 ⟨yv, H9, I9, r9, q9⟩ => ?_)
      obtain ⟨b, rfl, q9⟩ := q9
      have ry : y = .bool b := r9
      subst ry
      have hl : (wipe s_ vs).length = σ8.length := by rw [← hw8, wipe_length]
      have Iw : Inv Xg pins (wipe s_ vs) H9 s4 := I9.unpinned.weak hl (fun j v e => ?wk)
      case wk =>
        rw [← hw8] at e
        exact (wipe_some e).1
      have pin' : ∀ b ∈ fp, ∀ o, s2.heap.get? b = some o → s4.heap.get? b = some o ∧ H9 b = none := fun b hb o e =>
        let z := I9.pin (b, o) (List.mem_append_right _ (List.mem_append_right _ (mem_pinsAt hb e)))
        ⟨z.1, z.2.1⟩
      refine seg_at (seg_yield rfl rfl rfl ⟨b, rfl, H9, Iw, fun hb => ?_, fun hb s'' ho hg hk => ?_⟩)
      · subst hb
        exact q9
      · subst hb
        obtain ⟨m', hm', w'⟩ := hNx H9 q9
        refine seg_again rfl (ih (i + 1) m' H9 s'' s'' (by omega) w' (inv_sim Iw ho hg hk) (T.keep _ _ _ st7 fun b hb o e => hk b o (pin' b hb o e).1) fun b hb => ?_)
        obtain ⟨o, e, _⟩ := T.obj _ _ st7 b hb
        exact (pin' b hb o e).2

/-- all's loop over the generator at a -/
theorem all_loop {Xg : Cx} {A : Around} {σ' : L2.St} {R : Result → Shared → Prop} {Q : VK} {a : Addr} {g : Nat} (hh : A.handled = none) (hroom : A.depth < recursionLimit)
    (hgen : ∀ H s, Inv Xg pins σ' H s → s.heap.IsGen a g)
    (hR : ∀ b H s, Inv Xg pins σ' H s → Q (.bl b) H → R (.ok (.ret (.bool b))) s) :
    ∀ (n : Nat) (H : Hp) (gs : GenState) (s : Shared), Inv Xg pins σ' H s → s.gens[g]? = some gs → gs.Goes (model Xg.prog Xg.w) A.in1.in1 (gR Xg pins σ' Q) (gY Xg pins σ' Q) n (.send .none) (s.setGen g .running) →
      codeAny (model Xg.prog Xg.w) A (.builtin "all.loop" ⟨[.ref a], []⟩) R s := by
  intro n
  induction n with
  | zero =>
    intro H gs s I hgs hgo
    refine codeAny_builtin F.entry_all_loop ?_
    rw [Around.under_plainId F.plain_all_loop _]
    show wpAny _ A.in1 (pyNext (.ref a) >>= _) _ _ s
    refine wpAny_bind (wpAny_pyNext_genexpQ (A := A.in1) (P := fun _ s₁ s₂ => ∃ H, Inv Xg pins σ' H s₂ ∧ Q (.bl true) H) hh I.nolimit hroom (hgen H s I) hgs hgo (fun v s₁ gs' hb hv => ?_) (fun s₁ hp h' hk => ?_))
    · obtain ⟨b, rfl, H1, I1, q0, q1⟩ := hv
      cases b with
      | true => exact (q1 rfl s₁ rfl I1.bare fun _ _ e => e).elim
      | false =>
        refine wpAny_bind (wpAny_holding (wpAny_truthy_bool ?_))
        refine wpAny_bind (wpAny_letGo ?_)
        simp only [Bool.false_eq_true, if_false]
        exact wpAny_bind (wpAny_rule (wpAny_pure (hR false H1 _ (inv_set I1 hb) (q0 rfl))))
    · obtain ⟨H1, I1, q⟩ := hp
      refine wpAny_bind (wpAny_rule (wpAny_pure ?_))
      exact hR true H1 _ (inv_sim I1 rfl (bare_set (x := .finished) I1.bare rfl) hk) q
  | succ n ih =>
    intro H gs s I hgs hgo
    refine codeAny_builtin F.entry_all_loop ?_
    rw [Around.under_plainId F.plain_all_loop _]
    show wpAny _ A.in1 (pyNext (.ref a) >>= _) _ _ s
    have hgl : g + 1 ≤ s.gens.size := by
      rcases Nat.lt_or_ge g s.gens.size with h | h
      · exact h
      · rw [Array.getElem?_eq_none h] at hgs; cases hgs
    refine wpAny_bind (GenW.wpAny_gsz hgl (wpAny_pyNext_genexpQ (A := A.in1) (P := fun _ s₁ s₂ => ∃ H, Inv Xg pins σ' H s₂ ∧ Q (.bl true) H) hh I.nolimit hroom (hgen H s I) hgs hgo (fun v s₁ gs' hb hv => ?_) (fun s₁ hp h' hk => ?_)))
    · intro hsz
      obtain ⟨b, rfl, H1, I1, q0, q1⟩ := hv
      refine wpAny_bind (wpAny_holding (wpAny_truthy_bool ?_))
      refine wpAny_bind (wpAny_letGo ?_)
      cases b with
      | true =>
        simp only [if_true]
        have hs1 : g < s₁.gens.size := by rw [GenW.setGen_size] at hsz; exact hsz
        refine wpAny_pure ⟨plainId_quiet F.plain_all_loop _, ih H1 gs' _ (inv_set I1 hb) (by simp [Shared.setGen, hs1]) ?_⟩
        refine q1 rfl _ rfl (bare_set (s := s₁.setGen g gs') (bare_set I1.bare hb) rfl) fun _ _ e => e
      | false =>
        simp only [Bool.false_eq_true, if_false]
        exact wpAny_bind (wpAny_rule (wpAny_pure (hR false H1 _ (inv_set I1 hb) (q0 rfl))))
    · intro _
      obtain ⟨H1, I1, q⟩ := hp
      refine wpAny_bind (wpAny_rule (wpAny_pure ?_))
      exact hR true H1 _ (inv_sim I1 rfl (bare_set (x := .finished) I1.bare rfl) hk) q

theorem pe_allG {c P : Addr} {elt tg iter : Expr} {p pos gpos : Pos} {scope : Scope} {own : List (Str × Nat)} {wi : TI} {g : TG} {te : TE} {k : Nat} (hr : Room k X.A) (hN : X.N.Nodup) (hgl : Gl X "all") (hm : X.mg "all" = none) (hb : bootBuiltins "all" = some (.builtin "all"))
    (TB : GxR.TabB X.base X.mg c P) (hcode : X.env.code = .ref c) (ok : GOk X.N X.env.scope scope own) (hi : PI X tg iter wi)
    (pg : ∀ s H C code fp, PG (gX X s H scope C code fp) tg g) (pe : ∀ s H C code fp, PE (gX X s H scope C code fp) elt te) (hs : ∀ v, genFold iter X.env v = pure v)
    (he : starEach [.GeneratorExp elt [⟨tg, iter, [], 0⟩] scope gpos] X.env = (false, eval (.GeneratorExp elt [⟨tg, iter, [], 0⟩] scope gpos) X.env) :: starEach [] X.env := by rfl) :
    PE X (.Call (.Name "all" p) [.GeneratorExp elt [⟨tg, iter, [], 0⟩] scope gpos] [] pos) (tAllG P wi g te (own.map (·.2))) := by
  refine ⟨fun pins s σ H Q I h => ?_⟩
  refine wpAny_Call_Name_kw (ld_blt I hgl hm hb ?_)
  refine PyProof.Rows.callWith_builtin1 ?_ he (by rfl)
  rw [he]
  show wpAny _ _ (spliced ((false, eval (.GeneratorExp elt [⟨tg, iter, [], 0⟩] scope gpos) X.env) :: backTo pos (starEach [] X.env))) _ _ s
  have hfree : ∀ y ∈ scope.names, y.2 = .free → ∃ c, X.env.cells.lookup y.1 = some c := fun y hy e => by
    rcases ok.free y hy e with k | k
    · exact I.ok.has _ (.inl k)
    · exact I.ok.has _ (.inr k)
  refine Calls.spliced_cons (wpAny_GeneratorExp_make ok.co (closure_ok hfree) ok.cell ok.dot ok.kind (by have := hr.dp; omega) ?_ hs)
  refine thn (hi.run pins s σ H _ I h) fun xv s1 hx => thn hx fun itv s2 h2 => ?_
  obtain ⟨it, fp, tn, J, H2, e, I2, T, st2, f2, ⟨ps, hP, ht⟩, q⟩ := h2
  subst e
  have hPs : s2.heap.get? P = some { cls := .none, data := .fields ps } := I2.hok P _ hP
  have cd : PySem.W.CodeHd s2.heap c P := TB.code.keeps fun b u e => I2.bk b u e
  have sz : ∀ b ∈ fp, b < s2.heap.objs.size := fun b hb => by
    obtain ⟨o, e, _⟩ := T.obj _ _ st2 b hb
    exact Heap.lt_size e
  have nP : ∀ b ∈ fp, b ≠ P := fun b hb z => by
    have := (f2 b hb).1
    rw [z, hP] at this
    cases this
  have cont : ∀ (code : Value) (h3 : Heap) (tk : Nat) (ps' : Array Value), Heap.ExtBut P s2.heap h3 → s2.heap.objs.size ≤ h3.objs.size → h3.get? P = some { cls := .none, data := .fields ps' } → (∃ more, ps' = ps ++ more) → TriplesOk ps'.toList →
      wpAny (model X.prog X.w) X.A (builtinsFor X.env.globals X.env.builtins) (fun bi s₄ => ∀ h', h'.Ns s₄.heap.objs.size (fun y => if y = ".0" then some (.ref it) else none) → Heap.SameBut s₄.heap.objs.size (s₄.heap.push { cls := .type "frame", data := .dict #[] }) h' →
          wpAny (model X.prog X.w) X.A (spliced (backTo pos (starEach [] X.env))) (fun vs s' => wpAny (model X.prog X.w) X.A (call (.builtin "all") (.ref h'.objs.size :: vs)) (EP X pins σ Q) X.xe s') X.xe { s₄ with
            gens := s₄.gens.push (.fresh (.compStart (.GeneratorExp elt [⟨tg, iter, [], 0⟩] scope gpos) 0 (.ref it) .none (genEnv scope (cloFrom X.env.cells scope.names []) s₄.heap.objs.size code bi X.env))),
            toks := s₄.toks + 1 + 1 + 1,
            heap := h'.push { cls := .type "generator", data := .fields #[.int s₄.gens.size 0, .str "<genexpr>" (s₄.toks + 1), .str (X.env.qual ++ "<genexpr>") (s₄.toks + 1 + 1)] } }) X.xe { s2 with heap := h3, toks := tk } := by
    intro code h3 tk ps' hx hsz hP3 hmore ht3
    obtain ⟨bm, ob, e1, e2, e3, e4, e5, e6, e7, e8⟩ := TB.bm
    refine wpAny_builtinsFor (m := X.mg) (by rw [I2.ok.glob]; exact (I2.mod.glob.keeps I2.bk).extBut hx TB.gP) e1 e2 (hx _ _ e4 (I2.bk _ _ e5)) e6 e7 e8 ?_
    intro h' hn' hs'
    obtain ⟨more, em⟩ := hmore
    -- the table has grown
    have I3 : Inv X pins σ (upd H2 P (.tbl (ps ++ more))) { s2 with heap := h3, toks := tk } := GxR.inv_tab (g' := s2.gens) (d' := s2.drawn) I2 hP (fun b u hb e => hx b u hb e) (by rw [← em]; exact hP3) I2.bare
    have hT : GxR.Tabbed P H2 (upd H2 P (.tbl (ps ++ more))) := ⟨⟨ps ++ more, upd_same, by rw [← em]; exact ht3⟩, fun b hb => upd_ne hb⟩
    obtain ⟨W, ⟨m0, w0⟩, turn⟩ := q _ hT
    generalize hH3 : upd H2 P (.tbl (ps ++ more)) = H3 at I3 hT w0
    have h3n : ∀ b ∈ fp, H3 b = none := fun b hb => by rw [hT.2 b (nP b hb)]; exact (f2 b hb).1
    have st3 : tn 0 h3 := T.keep _ _ _ st2 fun b hb o e => hx b o (nP b hb) e
    generalize hs3 : ({ s2 with heap := h3, toks := tk } : Shared) = s3 at I3 hn' hs' ⊢
    have e3h : s3.heap = h3 := by rw [← hs3]
    have f3 : ∀ b ∈ fp, FpOk X pins H3 b ∧ b < s3.heap.objs.size := fun b hb => ⟨⟨h3n b hb, (f2 b hb).2⟩, by rw [e3h]; exact Nat.lt_of_lt_of_le (sz b hb) hsz⟩
    have st3' : tn 0 s3.heap := by rw [e3h]; exact st3
    generalize hgo : ({ cls := .type "generator", data := .fields #[.int s3.gens.size 0, .str "<genexpr>" (s3.toks + 1), .str (X.env.qual ++ "<genexpr>") (s3.toks + 1 + 1)] } : Obj) = go
    generalize hgs : GenState.fresh (.compStart (.GeneratorExp elt [⟨tg, iter, [], 0⟩] scope gpos) 0 (.ref it) .none (genEnv scope (cloFrom X.env.cells scope.names []) s3.heap.objs.size code builtinsNs X.env)) = gs
    have I4 := gen_start (code := code) (go := go) (gs := gs) (tk := s3.toks + 1 + 1 + 1) I3 hr.hd ok hN f3 hn' hs' (by rw [← hgo]; intro v z; cases z) (by rw [← hgo]; rfl) (by rw [← hgs]; rfl)
    have szh : h'.objs.size = s3.heap.objs.size + 1 := by rw [hs'.1, Heap.size_push]
    have kp0 : ∀ b o, s3.heap.get? b = some o → (h'.push go).get? b = some o := fun b o e => Heap.get?_push_of_some _ (hs'.extBut b o (Nat.ne_of_lt (Heap.lt_size e)) (Heap.get?_push_of_some _ e))
    refine Calls.spliced_nil ?_
    generalize hs4 : ({ s3 with gens := s3.gens.push gs, toks := s3.toks + 1 + 1 + 1, heap := h'.push go } : Shared) = s4 at I4 ⊢
    have st4 : tn 0 s4.heap := T.keep _ _ _ st3' fun b _ o e => by rw [← hs4]; exact kp0 b o e
    have hgen : ∀ {H' : Hp} {s' : Shared} {σ' : L2.St}, Inv (gX X s3 H3 scope s3.heap.objs.size code fp) [(h'.objs.size, go)] σ' H' s' → s'.heap.IsGen h'.objs.size s3.gens.size := fun {H' s' σ'} I' => by
      have := (I'.pin (h'.objs.size, go) (List.mem_append_right _ List.mem_cons_self)).1
      exact ⟨go, _, _, this, by rw [← hgo], by rw [← hgo], by rw [← hgo]⟩
    have back : ∀ {H' : Hp} {s' : Shared} {σ' : L2.St}, Inv (gX X s3 H3 scope s3.heap.objs.size code fp) [(h'.objs.size, go)] σ' H' s' → Inv X pins σ H' s' := fun {H' s' σ'} I' =>
      I3.call' (ch := fp) I'.os I'.base I'.hok I'.bare fun b hb => ⟨(f3 b hb).1.2.2.2.1, (f3 b hb).1.2.1, (f3 b hb).1.2.2.2.2.1, (f3 b hb).1.2.2.2.2.2⟩
    have hpf : ∀ p ∈ [(h'.objs.size, go)], ∀ b ∈ fp, p.1 ≠ b := fun p hp b hb z => by
      rw [List.mem_singleton.mp hp] at z
      have := (f3 b hb).2
      rw [← z, szh] at this
      exact absurd this (Nat.not_lt_of_le (Nat.le_succ _))
    have gen4 : s4.gens[s3.gens.size]? = some gs := by rw [← hs4]; exact Array.getElem?_push_size ..
    have run : ∀ (σ' : L2.St) (s5 : Shared), Inv (gX X s3 H3 scope s3.heap.objs.size code fp) [(h'.objs.size, go)] (wipe σ (own.map (·.2))) H3 s5 → tn 0 s5.heap →
        gs.Goes (model X.prog X.w) X.A.in1.in1 (gR (gX X s3 H3 scope s3.heap.objs.size code fp) [(h'.objs.size, go)] (wipe σ (own.map (·.2))) Q) (gY (gX X s3 H3 scope s3.heap.objs.size code fp) [(h'.objs.size, go)] (wipe σ (own.map (·.2))) Q) (m0 + 1) (.send .none) s5 := by
      intro σ' s5 I5 st5
      rw [← hgs]
      refine ⟨rfl, ?_⟩
      have loop := seg_all (Xg := gX X s3 H3 scope s3.heap.objs.size code fp) (Ag := X.A.in1.in1) (gpos := gpos) (scope := scope) (iter := iter) (fp := fp) (vs := own.map (·.2)) (s_ := σ) (Q := Q) (pins := [(h'.objs.size, go)]) (by rfl) rfl rfl ok.co rfl rfl T (pg s3 H3 s3.heap.objs.size code fp) (pe s3 H3 s3.heap.objs.size code fp) hpf turn (m0 + 1) 0 m0 H3 s5 s5 (Nat.lt_succ_self _) w0 I5 st5 h3n
      show Seg _ X.A.in1.in1 _ _ _ s5 _ ((compStart (.GeneratorExp elt [⟨tg, iter, [], 0⟩] scope gpos) 0 (.ref it) .none (gEnv X scope s3.heap.objs.size code)).onRaise (leaving (gEnv X scope s3.heap.objs.size code))) [] s5
      unfold compStart
      rw [Sem.onRaise_eq_wrap]
      show Seg _ X.A.in1.in1 _ _ _ s5 _ ((ask >>= _).wrap _ _ _ _) [] s5
      refine seg_bind_wrap (wpAny_askSetting ?_)
      split
      · exact seg_again rfl loop
      · first
          | exact seg_bind_wrap (wpAny_rule (seg_bind_wrap (wpAny_standAt (seg_bind_wrap (T.self _ 0 s5 _ _ st5 (seg_again rfl loop))))))
          | (refine seg_bind_wrap (wpAny_rule ?_); show Seg _ X.A.in1.in1 _ _ _ s5 _ ((standAt iter.pos >>= _).wrap _ _ _ _) [] s5; exact seg_bind_wrap (wpAny_standAt (seg_bind_wrap (T.self _ 0 s5 _ _ st5 (seg_again rfl loop)))))
    refine call_function_tree F.kind_all F.plain_all F.entry_all (F.args_all1 _) ?_
    unfold Builtin.«all»
    refine wpAny_bind (m := oneArg "all" _) (wpAny_pure ?_)
    refine wpAny_bind (wpAny_pyIter_gen (hgen I4) ?_)
    refine wpAny_pure ⟨plainId_quiet F.plain_all_loop _, ?_⟩
    refine all_loop (Xg := gX X s3 H3 scope s3.heap.objs.size code fp) (A := X.A) (pins := [(h'.objs.size, go)]) (σ' := wipe σ (own.map (·.2))) (Q := Q) (g := s3.gens.size) hr.hd (by have := hr.dp; omega) (fun H' s' I' => hgen I') (fun b H' s' I' qb => ?_) (m0 + 1) H3 gs s4 I4 gen4 ?_
    · exact ⟨.bl b, H', back I', rfl, qb⟩
    · exact run σ _ (inv_set I4 rfl) st4
  refine ⟨I2.nolimit, ?_⟩
  cases hf : codeAmong gpos ps.toList with
  | none =>
    refine wpAny_genexprCodeX hcode (cd.code hPs ht) (cd.tab hPs) hf fun c' h' tk hx hge hlt hco' _ htab' _ => ?_
    obtain ⟨o1, vs, f1, tf, fl, tg', inF, tx, tt, op, _, _, _, _, _, _, _, _, _, htr, _⟩ := hco'
    exact cont _ h' tk _ hx (Nat.le_trans hge (Nat.le_of_lt hlt)) htab'.2 ⟨_, rfl⟩ htr
  | some cv =>
    refine wpAny_genexprCode_hit hcode (cd.code hPs ht) hf ?_
    exact cont cv s2.heap s2.toks ps (Heap.ExtBut.refl _ _) (Nat.le_refl _) hPs ⟨#[], by simp⟩ ht
end
end GX

set_option Elab.async false
set_option linter.all false
set_option maxRecDepth 100000
set_option maxHeartbeats 2000000
/-! DL8: all of a generator expression, in data. -/
namespace DL
open PySem PySem.Spec L2

section
variable {X : Cx} {T : List Addr} {Δ : DEnv} {e a b c : Expr} {es : List Expr} {d d1 d2 d3 : Dt} {ds : List Dt} {r : Res} {pos p : Pos} {st : Stmt} {rest sts : List Stmt} {P : DE}
variable {K : PySem.W.Frag} {fm : Fm} {L : Lk} {O : List Addr} {σ : St} {H H' : Hp} {Q : VK} {W : WX} {D : Ends}

/-- in the generator's frame: for each of its frames -/
def InGen (X : Cx) (scope : Scope) (f : Cx → Prop) : Prop := ∀ s H C code fp, f (GX.gX X s H scope C code fp)
def canEg (X : Cx) (scope : Scope) (e : Expr) : TE := fun σ H Q => ∀ s0 H0 C code fp, canE (GX.gX X s0 H0 scope C code fp) e σ H Q
def canGg (X : Cx) (scope : Scope) (e : Expr) : TG := fun v σ H Q => ∀ s0 H0 C code fp, canG (GX.gX X s0 H0 scope C code fp) e v σ H Q
theorem gok_by {N : List Str} {sc scope : Scope} {own : List (Str × Nat)} (h : (scope.kind == .function && !scope.isCoroutine && scope.names.all (fun y => !(y.2 == .cell)) && (scope.names.lookup (".0" : Str) == some .local) && scope.names.all (fun y => scope.names.lookup y.1 == some y.2)
    && own.all (fun p => N[p.2]? == some p.1) && scope.names.all (fun y => !(y.2 == .free) || (sc.names.lookup y.1 == some .cell || sc.names.lookup y.1 == some .free)) && scope.names.all (fun y => !(y.2 == .local) || ((own.map (·.1)).contains y.1 || !(N.contains y.1)))) = true) : GX.GOk N sc scope own := by
  simp only [Bool.and_eq_true, List.all_eq_true, Bool.or_eq_true, beq_iff_eq, Bool.not_eq_true', beq_eq_false_iff_ne, List.contains_eq_mem, decide_eq_true_eq, decide_eq_false_iff_not] at h
  obtain ⟨⟨⟨⟨⟨⟨⟨h1, h2⟩, h3⟩, h4⟩, h5⟩, h6⟩, h7⟩, h8⟩ := h
  exact ⟨h1, h2, h3, h4, h5, h6, fun y hy e => (h7 y hy).resolve_left fun z => z e, fun y hy e => (h8 y hy).resolve_left fun z => z e⟩
theorem pd_allG {c P : Addr} {elt tg iter : Expr} {gpos : Pos} {scope : Scope} {own : List (Str × Nat)} {k : Nat} {items : List Dt} {bs : List Bool} (hP : P ∈ T) (hr : Room k X.A) (hN : X.N.Nodup) (hm : X.mg "all" = none)
    (TB : GxR.TabB X.base X.mg c P) (hcode : X.env.code = .ref c) (ok : GX.GOk X.N X.env.scope scope own) (hi : PID X T Δ tg iter items) (hl : bs.length = items.length)
    (ht : ∀ (i : Nat) (d : Dt) (b : Bool), items[i]? = some d → bs[i]? = some b → (∀ j, j < i → bs[j]? = some true) → ∃ js Δ'', (∀ j ∈ js, j ∈ own.map (·.2)) ∧ InGen X scope (fun X' => GD X' T tg d js (wipeD Δ (own.map (·.2))) Δ'') ∧ InGen X scope (fun X' => PD X' T Δ'' elt (.bl b)))
    (hgl : Gl X "all" := by rfl) (hb : bootBuiltins "all" = some (.builtin "all") := by decide +kernel) (hs : ∀ v, genFold iter X.env v = pure v := by intro _; rfl)
    (he : starEach [.GeneratorExp elt [⟨tg, iter, [], 0⟩] scope gpos] X.env = (false, eval (.GeneratorExp elt [⟨tg, iter, [], 0⟩] scope gpos) X.env) :: starEach [] X.env := by rfl) :
    PD X T Δ (.Call (.Name "all" p) [.GeneratorExp elt [⟨tg, iter, [], 0⟩] scope gpos] [] pos) (.bl (bs.all id)) :=
  .of (GX.pe_allG (own := own) (g := canGg X scope tg) (te := canEg X scope elt) hr hN hgl hm hb TB hcode ok canI_ok (fun s H C code fp => ⟨fun pins sh σ H v u Q I r h => h s _ C code fp pins sh u I r⟩) (fun s H C code fp => ⟨fun pins sh σ H Q I h => h s _ C code fp pins sh I⟩) hs he) fun fm L O σ H Q W tk s q =>
    hi.run fm L O σ H _ W tk s fun J H1 π g1 s1 ik => by
      refine ⟨s1.tab P hP, fun H2 hT => ?_⟩
      have g2 : Gr T H1 H2 := fun a o n e => by rw [hT.2 a fun z => n (z ▸ hP)]; exact e
      have t2 : TabOk T H2 := fun P' hP' => by
        by_cases z : P' = P
        · rw [z]; exact hT.1
        · obtain ⟨ps, e, h⟩ := s1.tab P' hP'
          exact ⟨ps, by rw [hT.2 P' z]; exact e, h⟩
      refine ⟨fun i m H' => m = items.length - i ∧ i ≤ items.length ∧ (∀ j, j < i → bs[j]? = some true) ∧ Gr T H H' ∧ Sta X.K T (fm.pin π) L O σ H' Δ,
        ⟨items.length, by simp, Nat.zero_le _, fun j z => absurd z (Nat.not_lt_zero _), g1.trans g2, s1.gr g2 t2⟩, ?_⟩
      rintro i m H' ⟨rfl, hi, hbs, g', s'⟩
      by_cases hlt : i < items.length
      · have hsl : i < bs.length := by omega
        obtain ⟨js, Δ'', hj, hgd, hpd⟩ := ht i items[i] bs[i] (List.getElem?_eq_getElem hlt) (List.getElem?_eq_getElem hsl) hbs
        refine .inr ⟨ik.go _ _ _ _ i s' hlt, fun H2 => bs[i] = true ∧ Gr T H H2 ∧ Sta X.K T (fm.pin π) L O σ H2 Δ,
          fun H2 ⟨hbi, g2, s2⟩ => ⟨items.length - (i + 1), by omega, rfl, hlt, fun j z => (Decidable.em (j = i)).elim (fun e => by rw [e, List.getElem?_eq_getElem hsl, hbi]) (fun e => hbs j (by omega)), g2, s2⟩, fun x H2 hy => ?_⟩
        obtain ⟨g2, t2, rx⟩ := ik.yld _ _ _ _ i x H2 items[i] s' (List.getElem?_eq_getElem hlt) hy
        have s2 := s'.gr g2 t2
        intro s0 H0 C code fp
        refine (hgd s0 H0 C code fp).run (fm.pin π) L O (wipe σ (own.map (·.2))) H2 x _ (s2.wiped _) rx fun σ2 s3 hsame => ?_
        refine ⟨wipe_same (hsame.len.trans (wipe_length σ _)) hj hsame.at_, ?_⟩
        intro s0 H0 C code fp
        refine (hpd s0 H0 C code fp).run (fm.pin π) L O σ2 H2 _ _ takes0 s3 fun y H4 g4 s6 ry => ?_
        have s7 := s2.gr g4 s6.tab
        refine ⟨bs[i], ry.bl_of, ?_⟩
        cases hbi : bs[i] with
        | true =>
          rw [if_pos rfl]
          exact ⟨rfl, (g'.trans g2).trans g4, s7⟩
        | false =>
          rw [if_neg Bool.false_ne_true]
          have : bs.all id = false := by
            cases h : bs.all id with
            | false => rfl
            | true =>
              have := List.all_eq_true.mp h bs[i] (List.getElem_mem hsl)
              rw [hbi] at this
              cases this
          rw [this] at q
          exact q _ H4 ((g'.trans g2).trans g4) s7.unpin (.bl _)
      · have e : i = items.length := by omega
        subst e
        refine .inl ⟨ik.stop _ _ _ _ s', ?_⟩
        have : bs.all id = true := List.all_eq_true.mpr fun b hb => by
          obtain ⟨j, hj, rfl⟩ := List.getElem_of_mem hb
          have := hbs j (by omega)
          rw [List.getElem?_eq_getElem hj] at this
          exact Option.some.inj this
        rw [this] at q
        exact q _ H' g' s'.unpin (.bl _)
end
end DL

set_option Elab.async false
set_option linter.all false
set_option maxRecDepth 100000
set_option maxHeartbeats 2000000
/-! DL9: type(x) == T, chains, signs in texts, displays of dicts, a def that holds a generator expression. -/
namespace DL
open PySem PySem.Spec L2
section
variable {X : Cx} {T : List Addr} {Δ : DEnv} {e a b c : Expr} {es : List Expr} {d d1 d2 d3 : Dt} {ds : List Dt} {r : Res} {pos p : Pos} {st : Stmt} {rest sts : List Stmt} {P : DE}
variable {K : PySem.W.Frag} {fm : Fm} {L : Lk} {O : List Addr} {σ : St} {H H' : Hp} {Q : VK} {W : WX} {D : Ends}

/-! ### type(x) == T -/
def TyD (K : PySem.W.Frag) (H : Hp) (x : V) (T : String) : Prop := TyB K H x T ∨ ∃ a kvs, x = .ref a ∧ T = "dict" ∧ Rd H a (.dK kvs)
theorem call_type2 : CallR X (.type "type") (fun xs H Q => ∃ x T, xs = [x] ∧ TyD X.K H x T ∧ Q (.ty T) H) := by
  intro pins s σ H xs us Q I r h
  obtain ⟨x, T, rfl, t, q⟩ := h
  obtain ⟨u, rfl, rx⟩ := vals1 r
  rcases t with t | ⟨a, kvs, rfl, rfl, t⟩
  · exact call_type_of (t.is I rx) t.nb ⟨.ty T, H, I, rfl, q⟩
  · cases (show u = Value.ref a from rx)
    obtain ⟨_, _, vs, _, p⟩ := (show ObjOk X.prog X.w H s.heap a (.dK kvs) from t.ok I.hok)
    exact call_type_of p.typeIs (by decide +kernel) ⟨.ty "dict", H, I, rfl, q⟩
theorem Rp.tyd {F H : Hp} {v : V} {n : String} (le : ∀ a u, F a = some u → H a = some u) (h : Rp K F v d) (hn : tyD d = some n) (hd : noDt d = true) : TyD K H v n := by
  cases h with
  | non => cases hn; exact .inl .non
  | bl b => cases hn; exact .inl (.bl b)
  | int i => cases hn; exact .inl (.int i)
  | str s => cases hn; exact .inl (.str _)
  | tup g _ _ => cases hn; exact .inl (.tup (.of (le _ _ g)))
  | lst g _ _ => cases hn; exact .inl (.lst (.of (le _ _ g)))
  | dk g _ _ _ =>
    cases hn
    rcases g with g | ⟨o, g⟩
    · exact .inr ⟨_, _, rfl, rfl, .inl (le _ _ g)⟩
    · exact .inr ⟨_, _, rfl, rfl, .inr ⟨o, le _ _ g⟩⟩
  | dt g _ _ _ => cases hd
  | _ => cases hn
theorem pd_type {n : String} (hm : X.mg "type" = none) (ha : PD X T Δ e d) (hn : tyD d = some n) (hd : noDt d = true) (hg : Gl X "type" := by rfl)
    (he : starEach [e] X.env = (false, eval e X.env) :: starEach [] X.env := by rfl) : PD X T Δ (.Call (.Name "type" p) [e] [] pos) (.ty n) :=
  pr_callT call_type2 (fun fm L O σ H Δ Q W vs tk s ra q => by
    obtain ⟨v, rfl, rv⟩ := ra.one
    exact ⟨v, n, rfl, rv.tyd (fun a u e => (mask_some e).1) hn hd, q _ H Gr.refl s (.ty _)⟩) hm (by decide +kernel) (pad_cons ha pad_nil he) hg (he := he)
/-- the built-in types that are asked for -/
def tyIs (n : String) : Bool := n == "int" || n == "str" || n == "tuple" || n == "list" || n == "bool" || n == "NoneType" || n == "dict"
theorem tyIs_ok {n : String} (h : tyIs n = true) : ∀ s : Shared, s.TypeIs (.type n) "type" := by
  unfold tyIs at h
  simp only [Bool.or_eq_true, beq_iff_eq] at h
  rcases h with (((((h | h) | h) | h) | h) | h) | h <;> subst h <;> intro s <;> rfl
theorem op_eqTy : OpR X (compareOp .Eq) (fun x y H Q => ∃ m n, x = .ty m ∧ y = .ty n ∧ tyIs m = true ∧ tyIs n = true ∧ Q (.bl (decide (m = n))) H) := by
  intro pins s σ H x y v u Q I rx ry h
  obtain ⟨m, n, rfl, rfl, h1, h2, q⟩ := h
  cases (show v = Value.type m from rx)
  cases (show u = Value.type n from ry)
  by_cases e : m = n
  · subst e
    exact PySem.TypeEq.eq_type_same (tyIs_ok h1) ⟨.bl true, H, I, rfl, by simpa using q⟩
  · refine PySem.TypeEq.eq_type_other (tyIs_ok h1) (tyIs_ok h2) ?_ ⟨.bl false, H, I, rfl, by simpa [e] using q⟩
    exact beq_eq_false_iff_ne.mpr fun z => e (Value.type.inj z)
/-- by `is` -/
theorem op_isTy9 : OpR X (compareOp .Is) (fun x y H Q => ∃ m n, x = .ty m ∧ y = .ty n ∧ tyIs m = true ∧ tyIs n = true ∧ Q (.bl (decide (m = n))) H) := by
  intro pins s σ H x y v u Q I rx ry h
  obtain ⟨m, n, rfl, rfl, h1, h2, q⟩ := h
  cases (show v = Value.type m from rx)
  cases (show u = Value.type n from ry)
  by_cases e : m = n
  · subst e
    exact wpAny_is_self rfl ⟨.bl true, H, I, rfl, by simpa using q⟩
  · exact wpAny_is_other rfl (fun z => e (Value.type.inj z)) ⟨.bl false, H, I, rfl, by simpa [e] using q⟩
theorem opd_eqTy {m n : String} (h1 : tyIs m = true) (h2 : tyIs n = true) : OpD X T (fun x y H Q => ∃ m n, x = .ty m ∧ y = .ty n ∧ tyIs m = true ∧ tyIs n = true ∧ Q (.bl (decide (m = n))) H) (.ty m) (.ty n) (.val (.bl (decide (m = n)))) := fun fm L O σ H Δ Q W x y tk s r1 r2 q =>
  ⟨m, n, r1.ty_of, r2.ty_of, h1, h2, q _ H Gr.refl s (.bl _)⟩
/-! ### chains -/
theorem pd_chain {op op' : CmpOp} {r r' : R2} {k l : Bool} (ho : OpR X (compareOp op) r) (ho' : OpR X (compareOp op') r') (ha : PD X T Δ a d1) (hb : PD X T Δ b d2) (hc : k = true → PD X T Δ c d3) (hr : OpD X T r d1 d2 (.val (.bl k))) (hr' : k = true → OpD X T r' d2 d3 (.val (.bl l)))
    (hm : lastMarks [op, op'] [b, c] = false := by with_unfolding_all rfl) : PD X T Δ (.Compare a [op, op'] [b, c] pos) (.bl (k && l)) :=
  .of (pe_chain ho ho' canE_ok canE_ok canE_ok hm) fun fm L O σ H Q W tk s q =>
    ha.run fm L O σ H _ W tk s fun x H1 g1 s1 r1 => hb.run fm L O σ H1 _ W tk s1 fun y H2 g2 s2 r2 =>
      hr fm L O σ H2 Δ _ W x y tk s2 (r1.mono (g2.mask s2.tO)) r2 fun v H3 g3 s3 r3 => ⟨k, r3.bl_of, by
        cases k with
        | false =>
          rw [if_neg Bool.false_ne_true]
          exact q _ H3 ((g1.trans g2).trans g3) s3 (.bl _)
        | true =>
          rw [if_pos rfl]
          refine (hc rfl).run fm L O σ H3 _ W tk s3 fun z H4 g4 s4 r4 => ?_
          refine hr' rfl fm L O σ H4 Δ Q W y z tk s4 (r2.mono ((g3.trans g4).mask s4.tO)) r4 ?_
          exact RK.back s s4 (((g1.trans g2).trans g3).trans g4) q⟩

/-! ### texts -/
theorem opd_leS {i j : List Nat} : OpD X T (fun x y H Q => ∃ i j, x = .str i ∧ y = .str j ∧ Q (.bl (!decide (j.cps.toList < i.cps.toList))) H) (.str i) (.str j) (.val (.bl (!decide (j < i)))) := fun fm L O σ H Δ Q W x y tk s r1 r2 q =>
  ⟨_, _, r1.str_of, r2.str_of, by
    have : (⟨j.toArray⟩ : Str).cps.toList = j := by simp
    rw [this]
    have : (⟨i.toArray⟩ : Str).cps.toList = i := by simp
    rw [this]
    exact q _ H Gr.refl s (.bl _)⟩
theorem opd_inS {k : Nat} {j : List Nat} : OpD X T (fun x y H Q => ∃ (c : Nat) (z : Str), x = .str ⟨#[c]⟩ ∧ y = .str z ∧ Q (.bl (decide (c ∈ z.cps.toList))) H) (.str [k]) (.str j) (.val (.bl (decide (k ∈ j)))) := fun fm L O σ H Δ Q W x y tk s r1 r2 q =>
  ⟨k, _, r1.str_of, r2.str_of, by
    have : (⟨j.toArray⟩ : Str).cps.toList = j := by simp
    rw [this]
    exact q _ H Gr.refl s (.bl _)⟩
theorem opd_notinS {k : Nat} {j : List Nat} : OpD X T (fun x y H Q => ∃ (c : Nat) (z : Str), x = .str ⟨#[c]⟩ ∧ y = .str z ∧ Q (.bl (!decide (c ∈ z.cps.toList))) H) (.str [k]) (.str j) (.val (.bl (!decide (k ∈ j)))) := fun fm L O σ H Δ Q W x y tk s r1 r2 q =>
  ⟨k, _, r1.str_of, r2.str_of, by
    have : (⟨j.toArray⟩ : Str).cps.toList = j := by simp
    rw [this]
    exact q _ H Gr.refl s (.bl _)⟩
theorem opd_isB {i j : Bool} : OpD X T (fun x y H Q => ∃ a b, x = .bl a ∧ y = .bl b ∧ Q (.bl (decide (a = b))) H) (.bl i) (.bl j) (.val (.bl (decide (i = j)))) := fun fm L O σ H Δ Q W x y tk s r1 r2 q =>
  ⟨_, _, r1.bl_of, r2.bl_of, q _ H Gr.refl s (.bl _)⟩
theorem opd_isnotB {i j : Bool} : OpD X T (fun x y H Q => ∃ a b, x = .bl a ∧ y = .bl b ∧ Q (.bl (!decide (a = b))) H) (.bl i) (.bl j) (.val (.bl (!decide (i = j)))) := fun fm L O σ H Δ Q W x y tk s r1 r2 q =>
  ⟨_, _, r1.bl_of, r2.bl_of, q _ H Gr.refl s (.bl _)⟩
theorem pd_powI {i j : Int} (ha : PD X T Δ a (.int i)) (hb : PD X T Δ b (.int j)) (hc : CPow i j) : PD X T Δ (.BinOp a .Pow b pos) (.int (i ^ j.toNat)) := pd_op op_pow ha hb (opd_I hc fun _ => .int _)


/-! ### displays of dicts -/
/-- a hidden thing is written -/
theorem Sta.hid_upd {pa : Addr} {o : HO} (s1 : Sta K T fm L O σ H Δ) (hp : H pa = none) (s7 : Sta K T fm L (pa :: O) σ H' Δ) (ho : ∀ xs, o ≠ .tup xs := by intro xs z; cases z) : Sta K T fm L (pa :: O) σ (upd H' pa o) Δ := by
  obtain ⟨aO, a0, aT, aL⟩ := s1.new_apart hp
  have hm : mask (upd H' pa o) (pa :: O) = mask H' (pa :: O) := mask_upd List.mem_cons_self
  refine ⟨s7.tO, fun P hP => ?_, fun l hl => ?_, s7.o0, s7.b0, s7.d0, fun q hq => by rw [hm]; exact s7.pin q hq, fun a o e h1 h2 h3 => ?_, fun q hq => ?_, s7.len, fun i e he => ?_, s7.own, s7.sep⟩
  · obtain ⟨ps, e1, q1⟩ := s7.tab P hP
    exact ⟨ps, by rw [upd_ne fun (z : P = pa) => aT (z ▸ hP)]; exact e1, q1⟩
  · by_cases hl2 : l = pa
    · rw [hl2]; exact .of upd_same ho
    · exact (s7.dom l hl).keep fun v e => by rw [upd_ne hl2]; exact e
  · have ne : a ≠ pa := fun z => by
      have := s1.fresh0 hp
      rw [z] at e
      rw [this] at e; cases e
    rw [upd_ne ne]
    exact s7.keep a _ e h1 h2 h3
  · have ne : q.1 ≠ pa := fun z => by
      have := s1.lock q hq
      rw [z, hp] at this; cases this
    rw [upd_ne ne]
    exact s7.lock q hq
  · obtain ⟨v, h1, h2⟩ := s7.slot i e he
    refine ⟨v, h1, ?_⟩
    cases e with
    | imm d =>
      show Rp K (mask (upd H' pa o) (pa :: O)) v d
      rw [hm]; exact h2
    | own l br o =>
      obtain ⟨q1, q2, q3⟩ := h2
      refine ⟨q1, q2, ?_⟩
      rw [hm]
      exact q3.mono (Le.refl _) fun u hu => by rw [upd_ne (aL i l br o he)]; exact hu
theorem pr_dict1 {k v : Expr} {i : Int} (hk : PD X T Δ k (.int i)) (hv : PD X T Δ v d) : PR X T Δ (.Dict [some k] [v] pos) (.own (.dk [(.inl i, d)])) :=
  .of (pe_disp (pps_cons canE_ok canE_ok pps_nil) rfl rfl (fun z => nomatch z) (by show 1 ≤ 15; decide)) fun fm L O σ H Q W tk s q p hp => by
    have s0 := s.hide (u := .dK []) hp
    refine hk.run fm L (p :: O) σ _ _ W tk s0 fun x H1 g1 s1 r1 => hv.run fm L (p :: O) σ H1 _ W tk s1 fun y H2 g2 s2 r2 => ?_
    obtain ⟨aO, a0, aT, aL⟩ := s.new_apart hp
    have e2 : H2 p = some (.dK []) := g2 p _ aT (g1 p _ aT upd_same)
    refine ⟨e2, [(.inl i, y)], by rw [r1.int_of]; rfl, by show 1 ≤ 15; decide, ?_⟩
    have hm : mask (upd H2 p (.dK [(.inl i, y)])) (p :: O) = mask H2 (p :: O) := mask_upd List.mem_cons_self
    refine q p _ hp (fun a o n ha => ?_) (s.hid_upd hp s2) ⟨[(.inl i, y)], upd_same, ⟨rfl, ?_⟩⟩
    · have ne : a ≠ p := fun z => by rw [z, hp] at ha; cases ha
      rw [upd_ne ne]
      exact g2 a o n (g1 a o n (by rw [upd_ne ne]; exact ha))
    · show RpA X.K (mask (upd H2 p (.dK [(.inl i, y)])) (p :: O)) [y] [d]
      rw [hm]
      exact .cons r2 .nil
end
section
variable {P : Program} {w : World} {K : PySem.W.Frag} {mg : Str → Option Value} {base : Heap} {T : List Addr}
/-- a def whose code object is known -/
theorem fn_okC {x qual : Str} {st : Stmt} {f : Addr} {fd : FuncData} {N ps : List Str} {k : Nat} {Fn : List Dt → Res → Prop} (F : Fun K x qual st f fd) (S : FnScope N ps (defScope st))
    (hbody : ∀ (cdv : Value) (A : Around) (outer : List PySem.Env) (s : Shared) (H : Hp) (E : XK) (ds : List Dt) (r : Res), fd.code = cdv → Room k (A.deeper (PyProof.Rows.envOfC qual (defScope st) s.heap.objs.size f cdv)) → ds.length = ps.length → Fn ds r →
      PSsD (cxOf (L2.CX P w) P w K mg base N qual (defScope st) f cdv A outer s H E) T (startD N ds) (defBody st) r.de) : FnD P w K mg base T (k + 1) f fd ps Fn := by
  obtain ⟨oc, od, kV, doc, pm, an, cdv, ct, osl, rfl, lk, hcd⟩ := F.ex
  refine fn_of lk hcd S (fun vs H Q E h => h.1) fun A outer s H vs Q E hr h => ?_
  obtain ⟨hl, O, ds, r, hp, ra, hF, ck⟩ := h
  refine ⟨_, canSs_ok, ?_⟩
  refine (hbody cdv A outer s H E ds r rfl hr (by rw [← ra.len]; exact hl) hF).run ⟨O, [], H, []⟩ [] O _ H _ (fun cls d _ H' => E cls d H') (takes_of rfl rfl rfl rfl) (sta_start hp ra) ?_
  have msk : ∀ {O' : List Addr} {H' : Hp}, (∀ l ∈ O, l ∈ O') → Le (mask H' O') (mask H' O) := fun h => mask_sub h
  cases r with
  | val d =>
    refine ⟨fun O' σ' H' Δ' h s' => ?_, fun O' σ' H' Δ' v d' h s' rv => ?_, fun _ _ _ _ _ _ h => h.elim, fun _ _ _ _ h => h.elim, fun _ _ _ _ h => h.elim, fun _ _ _ _ _ h => h.elim⟩
    · have h : d = .non := h
      subst h
      exact ck .non H' (s'.gr0 rfl) s'.tab .non
    · have h : d' = d := h
      subst h
      exact ck v H' (s'.gr0 rfl) s'.tab (rv.mono (msk s'.o0))
  | own o =>
    refine ⟨fun _ _ _ _ h => h.elim, fun _ _ _ _ _ _ h => h.elim, fun O' σ' H' Δ' l o' h s' hl h0 ow => ?_, fun _ _ _ _ h => h.elim, fun _ _ _ _ h => h.elim, fun _ _ _ _ _ h => h.elim⟩
    have h : o' = o := h
    subst h
    refine ck l H' h0 (s'.gr0 rfl) s'.tab (ow.mono (mask_sub fun b hb => ?_) fun u hu => hu)
    rcases List.mem_cons.mp hb with z | z
    · rw [z]; exact hl
    · exact s'.o0 b z
  | exc C =>
    refine ⟨fun _ _ _ _ h => h.elim, fun _ _ _ _ _ _ h => h.elim, fun _ _ _ _ _ _ h => h.elim, fun _ _ _ _ h => h.elim, fun _ _ _ _ h => h.elim, fun O' σ' H' Δ' C' h s' => ?_⟩
    have h : C' = C := h
    subst h
    exact ck H' (s'.gr0 rfl) s'.tab
end
end DL

set_option Elab.async false
set_option linter.all false
set_option maxRecDepth 100000
set_option maxHeartbeats 2000000
/-! LM2: what the tests of spots and rules answer, as functions on data. -/
namespace LM
open PySem PySem.Spec L2 DL
def numD : Dt → Bool | .int _ => true | _ => false
def strB : Dt → Bool | .str _ => true | _ => false
def tupB : Dt → Bool | .tup _ => true | _ => false
def sgOk (c : Nat) : Bool := decide (97 ≤ c) && decide (c ≤ 122)
def signD : Dt → Bool | .str [c] => sgOk c | _ => false
def pileD : Dt → Bool | .str l => l.all sgOk | _ => false
def stateD (d : Dt) (many : Int) : Bool := match d with | .int i => decide (0 ≤ i) && decide (i < many) | _ => false
def tupleD (d : Dt) (n : Nat) : Bool := match d with | .tup l => decide (l.length = n) | _ => false
def ruleD (d : Dt) (many : Int) : Bool := match d with
  | .tup [a, b, c, .str p] => (stateD a many && (signD b && stateD c many)) && (p.all sgOk && decide (p.length ≤ 2))
  | _ => false
def spotD (d : Dt) (many : Int) : Bool := match d with
  | .tup [a, p] => stateD a many && pileD p
  | _ => false
/-- data whose type is told -/
def lenOk : Dt → Bool | .str l => decide (l.length ≤ 100000) && l.all (fun c => decide (c < 1000)) | _ => true
def pl1 (d : Dt) : Bool := (tyD d).isSome && (noDt d && lenOk d)
def pl2 (d : Dt) : Bool := pl1 d && (match d with | .tup l => l.all pl1 | _ => true)
theorem pl1_ty {d : Dt} (h : pl1 d = true) : ∃ n, tyD d = some n ∧ noDt d = true ∧ tyIs n = true := by
  obtain ⟨h1, h2⟩ := (Bool.and_eq_true _ _).mp h
  obtain ⟨n, hn⟩ := Option.isSome_iff_exists.mp h1
  refine ⟨n, hn, ((Bool.and_eq_true _ _).mp h2).1, ?_⟩
  cases d <;> first | (cases hn; decide) | cases hn
theorem pl1_ix {d : Dt} (h : pl1 d = true) : IxOk d := by
  have h2 := ((Bool.and_eq_true _ _).mp ((Bool.and_eq_true _ _).mp h).2).2
  cases d with
  | str l => exact Nat.le_trans (of_decide_eq_true ((Bool.and_eq_true _ _).mp h2).1) (by decide)
  | _ => trivial
theorem pl1_okS {l : List Nat} (h : pl1 (.str l) = true) : OkS l := fun c hc => by
  have h2 := ((Bool.and_eq_true _ _).mp ((Bool.and_eq_true _ _).mp h).2).2
  exact of_decide_eq_true (List.all_eq_true.mp ((Bool.and_eq_true _ _).mp h2).2 c hc)
theorem pl1_str {l : List Nat} (h : l.length ≤ 100000) (k : OkS l) : pl1 (.str l) = true := by
  show (true && (true && (decide (l.length ≤ 100000) && l.all (fun c => decide (c < 1000))))) = true
  rw [Bool.true_and, Bool.true_and, Bool.and_eq_true]
  exact ⟨decide_eq_true h, List.all_eq_true.mpr fun c hc => decide_eq_true (k c hc)⟩
theorem ty_int {d : Dt} {n : String} (h : tyD d = some n) : decide (n = "int") = numD d := by
  cases d <;> first | (cases h; rfl) | cases h
theorem ty_str {d : Dt} {n : String} (h : tyD d = some n) : decide (n = "str") = strB d := by
  cases d <;> first | (cases h; rfl) | cases h
theorem ty_tup {d : Dt} {n : String} (h : tyD d = some n) : decide (n = "tuple") = tupB d := by
  cases d <;> first | (cases h; rfl) | cases h
theorem num_of {d : Dt} (h : numD d = true) : ∃ i, d = .int i := by
  cases d with
  | int i => exact ⟨i, rfl⟩
  | _ => cases h
theorem str_of {d : Dt} (h : strB d = true) : ∃ l, d = .str l := by
  cases d with
  | str l => exact ⟨l, rfl⟩
  | _ => cases h
theorem tup_of {d : Dt} (h : tupB d = true) : ∃ l, d = .tup l := by
  cases d with
  | tup l => exact ⟨l, rfl⟩
  | _ => cases h
theorem state_num {d : Dt} {m : Int} (h : numD d = false) : stateD d m = false := by
  cases d with
  | int i => cases h
  | _ => rfl
theorem sign_str {d : Dt} (h : strB d = false) : signD d = false := by
  cases d with
  | str i => cases h
  | _ => rfl
theorem pile_str {d : Dt} (h : strB d = false) : pileD d = false := by
  cases d with
  | str i => cases h
  | _ => rfl
theorem tuple_tup {d : Dt} {n : Nat} (h : tupB d = false) : tupleD d n = false := by
  cases d with
  | tup i => cases h
  | _ => rfl
theorem lt1 (a b : Nat) : decide ([a] < [b]) = decide (a < b) := by
  apply decide_eq_decide.mpr
  constructor
  · intro h
    cases h with
    | rel h => exact h
    | cons h => cases h
  · exact fun h => .rel h
theorem tuple_of {d : Dt} {n : Nat} (h : tupleD d n = true) : ∃ l, d = .tup l ∧ l.length = n := by
  cases d with
  | tup l => exact ⟨l, rfl, of_decide_eq_true h⟩
  | _ => cases h
theorem rule_tuple {d : Dt} {m : Int} (h : tupleD d 4 = false) : ruleD d m = false := by
  unfold ruleD
  split
  · cases h
  · rfl
theorem spot_tuple {d : Dt} {m : Int} (h : tupleD d 2 = false) : spotD d m = false := by
  unfold spotD
  split
  · cases h
  · rfl
theorem rule_four {a b c e : Dt} {m : Int} : ruleD (.tup [a, b, c, e]) m = ((stateD a m && (signD b && stateD c m)) && (pileD e && (match e with | .str p => decide (p.length ≤ 2) | _ => false))) := by
  cases e with
  | str p => rfl
  | _ => simp [ruleD, pileD]
theorem two_of {l : List Dt} (h : l.length = 2) : ∃ a b, l = [a, b] := match l, h with | [a, b], _ => ⟨a, b, rfl⟩
theorem four_of {l : List Dt} (h : l.length = 4) : ∃ a b c d, l = [a, b, c, d] := match l, h with | [a, b, c, d], _ => ⟨a, b, c, d, rfl⟩
theorem ptd_k {X : Cx} {T : List Addr} {Δ : DEnv} {e : Expr} {k k' : Bool} (h : PTD X T Δ e k) (q : k = k') : PTD X T Δ e k' := q ▸ h
theorem room_gen {k : Nat} {A : Around} {env : PySem.Env} (r : Room (k + 1) A) : Room k (A.in1.in1.deeper env) :=
  ⟨r.hd, by have := r.dp; show A.depth + 1 + 3 * k + 5 < _; omega, by have := r.un; show A.units + 1 + 1 + 3 + 16 * k + 200 < _; omega⟩
theorem pl2_one {d : Dt} (h : pl2 d = true) : pl1 d = true := ((Bool.and_eq_true _ _).mp h).1
theorem pl2_tup {l : List Dt} (h : pl2 (.tup l) = true) : ∀ d ∈ l, pl1 d = true := List.all_eq_true.mp ((Bool.and_eq_true _ _).mp h).2
end LM
namespace LM
open PySem PySem.Spec L2 DL
def blD : Dt → Bool | .bl _ => true | _ => false
theorem isi_str {d : Dt} (h : pl1 d = true) : ∃ n, tyD d = some n ∧ noDt d = true ∧ kitB n "str" = some (strB d) := by
  obtain ⟨n, h1, h2, _⟩ := pl1_ty h
  refine ⟨n, h1, h2, ?_⟩
  cases d <;> first | (exfalso; cases h2; done) | (exfalso; cases h1; done) | (cases h1; exact (by decide +kernel : kitB "NoneType" "str" = some false)) | (cases h1; exact (by decide +kernel : kitB "bool" "str" = some false)) | (cases h1; exact (by decide +kernel : kitB "int" "str" = some false)) | (cases h1; exact (by decide +kernel : kitB "str" "str" = some true)) | (cases h1; exact (by decide +kernel : kitB "tuple" "str" = some false)) | (cases h1; exact (by decide +kernel : kitB "list" "str" = some false)) | (cases h1; exact (by decide +kernel : kitB "dict" "str" = some false))
theorem isi_int {d : Dt} (h : pl1 d = true) : ∃ n, tyD d = some n ∧ noDt d = true ∧ kitB n "int" = some (numD d || blD d) := by
  obtain ⟨n, h1, h2, _⟩ := pl1_ty h
  refine ⟨n, h1, h2, ?_⟩
  cases d <;> first | (exfalso; cases h2; done) | (exfalso; cases h1; done) | (cases h1; exact (by decide +kernel : kitB "NoneType" "int" = some false)) | (cases h1; exact (by decide +kernel : kitB "bool" "int" = some true)) | (cases h1; exact (by decide +kernel : kitB "int" "int" = some true)) | (cases h1; exact (by decide +kernel : kitB "str" "int" = some false)) | (cases h1; exact (by decide +kernel : kitB "tuple" "int" = some false)) | (cases h1; exact (by decide +kernel : kitB "list" "int" = some false)) | (cases h1; exact (by decide +kernel : kitB "dict" "int" = some false))
theorem isi_bool {d : Dt} (h : pl1 d = true) : ∃ n, tyD d = some n ∧ noDt d = true ∧ kitB n "bool" = some (blD d) := by
  obtain ⟨n, h1, h2, _⟩ := pl1_ty h
  refine ⟨n, h1, h2, ?_⟩
  cases d <;> first | (exfalso; cases h2; done) | (exfalso; cases h1; done) | (cases h1; exact (by decide +kernel : kitB "NoneType" "bool" = some false)) | (cases h1; exact (by decide +kernel : kitB "bool" "bool" = some true)) | (cases h1; exact (by decide +kernel : kitB "int" "bool" = some false)) | (cases h1; exact (by decide +kernel : kitB "str" "bool" = some false)) | (cases h1; exact (by decide +kernel : kitB "tuple" "bool" = some false)) | (cases h1; exact (by decide +kernel : kitB "list" "bool" = some false)) | (cases h1; exact (by decide +kernel : kitB "dict" "bool" = some false))
theorem isi_tuple {d : Dt} (h : pl1 d = true) : ∃ n, tyD d = some n ∧ noDt d = true ∧ kitB n "tuple" = some (tupB d) := by
  obtain ⟨n, h1, h2, _⟩ := pl1_ty h
  refine ⟨n, h1, h2, ?_⟩
  cases d <;> first | (exfalso; cases h2; done) | (exfalso; cases h1; done) | (cases h1; exact (by decide +kernel : kitB "NoneType" "tuple" = some false)) | (cases h1; exact (by decide +kernel : kitB "bool" "tuple" = some false)) | (cases h1; exact (by decide +kernel : kitB "int" "tuple" = some false)) | (cases h1; exact (by decide +kernel : kitB "str" "tuple" = some false)) | (cases h1; exact (by decide +kernel : kitB "tuple" "tuple" = some true)) | (cases h1; exact (by decide +kernel : kitB "list" "tuple" = some false)) | (cases h1; exact (by decide +kernel : kitB "dict" "tuple" = some false))
theorem mem_cutD {α : Type} {l : List α} {a b : Option Int} {x : α} (h : x ∈ cutD l a b) : x ∈ l := List.mem_of_mem_drop (List.mem_of_mem_take h)
theorem len_cutD {α : Type} (l : List α) (a b : Option Int) : (cutD l a b).length ≤ l.length := by
  unfold cutD
  rw [List.length_take, List.length_drop]
  omega
theorem getD_all {α : Type} {P : α → Prop} {l : List α} {z : α} (hz : P z) (h : ∀ x ∈ l, P x) (i : Nat) : P (l.getD i z) := by
  rw [List.getD_eq_getElem?_getD]
  cases e : l[i]? with
  | none => exact hz
  | some x => exact h x (List.mem_of_getElem? e)
theorem mod_bounds (c : Int) {m : Int} (h : 0 < m) : 0 ≤ c % m ∧ c % m < m := ⟨Int.emod_nonneg _ (by omega), Int.emod_lt_of_pos _ h⟩
/-! ### the odd things of the first law -/
def textD (c : Int) (n : Nat) : List Nat := (List.range n).map fun (k : Nat) => sgn (c / (1 + (k : Int)) + 7 * (k : Int))
theorem textD_len (c : Int) (n : Nat) : (textD c n).length = n := by unfold textD; simp
theorem textD_ok (c : Int) (n : Nat) : (textD c n).all sgOk = true := List.all_eq_true.mpr fun x hx => by
  obtain ⟨k, _, rfl⟩ := List.mem_map.mp hx
  have := sgn_lt (c / (1 + (k : Int)) + 7 * (k : Int))
  unfold sgOk
  simp
  omega
def oddSL (c m : Int) : List Dt := [.int (-1), .int m, .int (m + c / 8 % 10 ^ 30), .int (-1 - c / 8 % 10 ^ 30), .bl true, .bl false, .non, .str [48], .lst [.int 0], .tup [.int 1]]
def oddS (c m : Int) : Dt := (oddSL c m).getD (c % 10).toNat .non
def oddChars : List Nat := [65, 66, 90, 123, 96, 48, 32, 57, 47, 95, 10, 45, 64]
def oddTT (c : Int) (t : List Nat) : List Nat := cutD t none (some (c / 8 % ((t.length : Int) + 1))) ++ [oddChars.getD (c / 64 % 13).toNat 0] ++ cutD t (some (c / 8 % ((t.length : Int) + 1))) none
def oddTL (c : Int) (t : List Nat) : List Dt := [.str (oddTT c t), .non, .int 5, .lst [.str t], .tup [.str t], .str (oddTT c t), .dk [] [], .str (oddTT c t)]
def oddT (c : Int) (t : List Nat) : Dt := (oddTL c t).getD (c % 8).toNat .non
def spoiltL (l : List Dt) : List Dt := [.lst l, .tup (cutD l none (some (-1))), .tup (l ++ [.int 0]), .non, .int 7, .dk [.inl 0] [.tup l], .str [97, 98], .tup []]
def partL (c : Int) (t : List Nat) : List Dt := [oddT (c / 49) t, .str (t ++ textD (c / 49) (1 + c / 49 % 3).toNat), .str []]
def part (d : Dt) (c m : Int) : Dt := match d with
  | .str t => (partL c t).getD (c % 3).toNat .non
  | _ => oddS (c / 49) m
def spoilt (l : List Dt) (c m : Int) : Dt :=
  if c % 7 = 0 then .tup l else if c % 7 = 1 then (spoiltL l).getD (c / 49 % 8).toNat .non
  else .tup (cutD l none (some (c / 7 % (l.length : Int))) ++ [part (l.getD (c / 7 % (l.length : Int)).toNat .non) c m] ++ cutD l (some (c / 7 % (l.length : Int) + 1)) none)
theorem oddTT_len (c : Int) (t : List Nat) : (oddTT c t).length ≤ 2 * t.length + 1 := by
  unfold oddTT
  rw [List.length_append, List.length_append, List.length_singleton]
  have h1 := len_cutD t none (some (c / 8 % ((t.length : Int) + 1)))
  have h2 := len_cutD t (some (c / 8 % ((t.length : Int) + 1))) none
  omega
theorem pl1_oddS (c m : Int) : pl1 (oddS c m) = true := by
  refine getD_all (P := fun d => pl1 d = true) rfl (fun x hx => ?_) _
  simp only [oddSL, List.mem_cons, List.not_mem_nil, or_false] at hx
  rcases hx with h | h | h | h | h | h | h | h | h | h <;> subst h <;> rfl
theorem okS_cut {t : List Nat} {a b : Option Int} (h : OkS t) : OkS (cutD t a b) := fun c hc => h c (mem_cutD hc)
theorem okS_oddTT {c : Int} {t : List Nat} (h : OkS t) : OkS (oddTT c t) := by
  unfold oddTT
  refine ok_app (ok_app (okS_cut h) fun x hx => ?_) (okS_cut h)
  rw [List.mem_singleton.mp hx]
  exact getD_all (P := fun x => x < 1000) (by decide) (by decide) _
theorem okS_textD (c : Int) (n : Nat) : OkS (textD c n) := fun x hx => by
  obtain ⟨k, _, rfl⟩ := List.mem_map.mp hx
  have := sgn_lt (c / (1 + (k : Int)) + 7 * (k : Int))
  omega
theorem pl1_oddT {c : Int} {t : List Nat} (h : t.length ≤ 1000) (k : OkS t) : pl1 (oddT c t) = true := by
  have h2 : pl1 (.str (oddTT c t)) = true := pl1_str (by have := oddTT_len c t; omega) (okS_oddTT k)
  refine getD_all (P := fun d => pl1 d = true) rfl (fun x hx => ?_) _
  simp only [oddTL, List.mem_cons, List.not_mem_nil, or_false] at hx
  rcases hx with h | h | h | h | h | h | h | h <;> subst h <;> first | exact h2 | rfl | decide
/-- what a row of the first law holds -/
def rowOk (d : Dt) : Prop := match d with | .int _ => True | .str t => t.length ≤ 1000 ∧ OkS t | _ => False
theorem rowOk_pl {d : Dt} (h : rowOk d) : pl1 d = true := by
  cases d with
  | int i => rfl
  | str t => exact pl1_str (Nat.le_trans h.1 (by decide)) h.2
  | _ => exact h.elim
theorem pl1_part {d : Dt} {c m : Int} (h : rowOk d) : pl1 (part d c m) = true := by
  cases d with
  | str t =>
    have ht : t.length ≤ 1000 := h.1
    have hk : OkS t := h.2
    refine getD_all (P := fun d => pl1 d = true) rfl (fun x hx => ?_) _
    simp only [partL, List.mem_cons, List.not_mem_nil, or_false] at hx
    rcases hx with h | h | h <;> subst h
    · exact pl1_oddT ht hk
    · refine pl1_str ?_ (ok_app hk (okS_textD _ _))
      rw [List.length_append, textD_len]
      have := mod_bounds (c / 49) (m := 3) (by decide)
      omega
    · rfl
  | _ => exact pl1_oddS _ _
theorem pl2_of_tup {l : List Dt} (h : ∀ d ∈ l, pl1 d = true) : pl2 (.tup l) = true := by
  show (true && l.all pl1) = true
  rw [Bool.true_and]
  exact List.all_eq_true.mpr h
theorem pl2_spoilt {l : List Dt} {c m : Int} (h0 : 0 < l.length) (h : ∀ d ∈ l, rowOk d) : pl2 (spoilt l c m) = true := by
  have hp : ∀ d ∈ l, pl1 d = true := fun d hd => rowOk_pl (h d hd)
  unfold spoilt
  split
  · exact pl2_of_tup hp
  split
  · refine getD_all (P := fun d => pl2 d = true) rfl (fun x hx => ?_) _
    simp only [spoiltL, List.mem_cons, List.not_mem_nil, or_false] at hx
    rcases hx with h | h | h | h | h | h | h | h <;> subst h
    · rfl
    · exact pl2_of_tup fun d hd => hp d (mem_cutD hd)
    · exact pl2_of_tup fun d hd => (List.mem_append.mp hd).elim (hp d) fun z => by rw [List.mem_singleton.mp z]; rfl
    · rfl
    · rfl
    · rfl
    · rfl
    · rfl
  · refine pl2_of_tup fun d hd => ?_
    rcases List.mem_append.mp hd with hd | hd
    · rcases List.mem_append.mp hd with hd | hd
      · exact hp d (mem_cutD hd)
      · rw [List.mem_singleton.mp hd]
        refine pl1_part ?_
        have hb := mod_bounds (c / 7) (m := (l.length : Int)) (by omega)
        have hlt : (c / 7 % (l.length : Int)).toNat < l.length := by omega
        rw [List.getD_eq_getElem?_getD, List.getElem?_eq_getElem hlt]
        exact h _ (List.getElem_mem hlt)
    · exact hp d (mem_cutD hd)
end LM

set_option Elab.async false
set_option linter.all false
set_option maxRecDepth 100000
set_option maxHeartbeats 2000000
/-! DLE: the end of a law over defs that hold generator expressions. -/
namespace DL
open PySem PySem.Spec PyProof.Rows L2

/-- what the head knows of a def's table -/
def TabAt (h : Heap) (mg : Str → Option Value) (y : Str) : Prop := ∃ (f : Addr) (o : Obj) (fd : FuncData) (c P : Addr), mg y = some (.ref f) ∧ h.get? f = some o ∧ o.data = .func fd ∧ fd.code = .ref c ∧ PySem.W.CodeHd h c P ∧ h.get? P = some { cls := .none, data := .fields #[] }
def emptyT : Obj → Bool
  | ⟨.none, none, .fields vs, sl⟩ => vs.isEmpty && sl.isEmpty
  | _ => false
/-- no empty table is among the written objects -/
def noTab (K : PySem.W.Frag) : Bool := K.all fun q => !emptyT q.2
theorem lookup_mem {a : Addr} {o : Obj} : ∀ {l : List (Addr × Obj)}, l.lookup a = some o → (a, o) ∈ l
  | [], h => by cases h
  | (b, u) :: r, h => by
    have h2 : (match a == b with | true => some u | false => r.lookup a) = some o := h
    cases q : (a == b) with
    | true =>
      rw [q] at h2
      have e : u = o := Option.some.inj h2
      rw [beq_iff_eq.mp q, e]
      exact List.mem_cons_self
    | false =>
      rw [q] at h2
      exact List.mem_cons_of_mem _ (lookup_mem h2)
theorem noTab_none {K : PySem.W.Frag} {h : Heap} {P : Addr} (n : noTab K = true) (X : K.In h) (e : h.get? P = some { cls := .none, data := .fields #[] }) : K.lookup P = none := by
  cases q : K.lookup P with
  | none => rfl
  | some u =>
    have e2 := X P u q
    rw [e] at e2
    have e3 := Option.some.inj e2
    have := List.all_eq_true.mp n _ (lookup_mem q)
    rw [← e3] at this
    cases this
theorem tab_of {K : PySem.W.Frag} {h : Heap} {mg : Str → Option Value} {y : Str} {f : Addr} {oc : Value} {od : Option Addr} {fd : FuncData} {sl : Array (Option Value)} (X : K.In h) (t : TabAt h mg y) (hm : mg y = some (.ref f)) (l : K.lookup f = some ⟨oc, od, .func fd, sl⟩) :
    ∃ c P, fd.code = .ref c ∧ PySem.W.CodeHd h c P ∧ h.get? P = some { cls := .none, data := .fields #[] } := by
  obtain ⟨f', o, fd', c, P, h1, h2, h3, h4, h5, h6⟩ := t
  rw [hm] at h1
  cases h1
  have e := X _ _ l
  rw [e] at h2
  cases h2
  cases h3
  exact ⟨c, P, h4, h5, h6⟩
theorem walkT {l : PySem.W.OpenLaw} {n k : Nat} {q : Program} {loose : List Str} {XP : (Str → Option Value) → Heap → Prop} {YP : World → Heap → Prop} {d : DefRec} {K : Params → PySem.W.Frag} {CX : World → CXT} {x : Str} (names : List Str)
    (hrec : (names.all fun y => (recsOf q).any fun e => e.name == y) = true) (hn : l.most = some n) (hn2 : n ≤ sizeLine) (hdf : d.params.defaults = []) (hr : Room k callerA) (hY : ∀ (w : World) (h : Heap), YP w h → (K w.params).In h)
    (F : ∀ (w : World) (mg : Str → Option Value) (fa : Addr) (h : Heap), YP w h → (K w.params).In h → h.Ns mainGlobals mg → mg d.name = some (.ref fa) → (∀ y ∈ names, TabAt h mg y) → LamX.LawAtS l w (K w.params) (CX w) k n x mg fa h)
    (hCX : ∀ (w : World) (H : Hp) (s : Shared) (e : Value) (s' : Shared), CX w [] H s (fun _ _ _ => False) e s' → False) :
    PySem.W.WalkO q loose XP YP l.row.toRowW d [] (fun f vs => PySem.call f vs) := by
  refine Att.attach_callB hn hdf fun w s₀ s₁ mg mb fa o pm cd doc a vs ns G Y ho hd hcd hmg hobj hints hlen hbits hg => ?_
  have KX := hY w _ Y
  have tabs : ∀ y ∈ names, TabAt s₁.heap mg y := fun y hy => by
    obtain ⟨dL, hm, hn1⟩ := List.any_eq_true.mp (List.all_eq_true.mp hrec y hy)
    have hn2 : dL.name = y := beq_iff_eq.mp hn1
    obtain ⟨a', o', fd', c', P', h1, h2, h3, h4, h5, h6⟩ := G.T.tab dL hm
    rw [hn2] at h1
    exact ⟨a', o', fd', c', P', h1, h2, h3, h4, PySem.W.CodeHd.of h5 h6, h6.2⟩
  obtain ⟨fd, cs, sp, hT, nT, C, hb, hsp, hF⟩ := F w mg fa _ Y KX G.T.g hmg tabs
  exact LamX.law_callTs KX G.T.g G.T.b G.T.builtins G.T.nolimit hg hT nT C G.T.bmain hobj hints (Nat.le_trans hlen hn2) hr hF hb (fun H hH hS => hsp H a ns hlen hbits hH hS) fun H e s' => hCX w H s₁ e s'
theorem tabB_of {base : Heap} {mg : Str → Option Value} {c P : Addr} (t : LamX.TabB base mg c P) : GxR.TabB base mg c P := ⟨t.code, t.bm, t.gP⟩
end DL

set_option Elab.async false
set_option linter.all false
set_option maxRecDepth 100000
set_option maxHeartbeats 4000000
namespace K01
open PySem PySem.Spec L2 DL LM
def top (i : Nat) : Stmt := PySem.Challenge.pw_pilerun_k01_rules_and_spots.main.body.getD i (.Pass ⟨0, 0, 0, 0⟩)
abbrev s_num : Stmt := top 1
abbrev s_state : Stmt := top 2
abbrev s_sign : Stmt := top 3
abbrev s_pile : Stmt := top 4
abbrev s_tuple : Stmt := top 5
abbrev s_isrule : Stmt := top 6
abbrev s_isspot : Stmt := top 7
abbrev s_cell : Stmt := top 9
abbrev s_lsign : Stmt := top 10
abbrev s_text : Stmt := top 11
abbrev s_odds : Stmt := top 12
abbrev s_oddt : Stmt := top 13
abbrev s_sgood : Stmt := top 14
abbrev s_pgood : Stmt := top 15
abbrev s_rgood : Stmt := top 16
abbrev s_spgood : Stmt := top 17
abbrev s_spoilt : Stmt := top 18
abbrev s_refused : Stmt := top 19
abbrev s_same : Stmt := top 20
abbrev s_law : Stmt := top 21
structure Txt (mg : Str → Option Value) : Prop where
  b_len : mg "len" = none
  b_range : mg "range" = none
  b_isinstance : mg "isinstance" = none
  b_list : mg "list" = none
  b_tuple : mg "tuple" = none
  b_int : mg "int" = none
  b_bool : mg "bool" = none
  b_str : mg "str" = none
  b_type : mg "type" = none
  b_all : mg "all" = none
section
variable {P : Program} {w : World} {K : PySem.W.Frag} {mg : Str → Option Value} {base : Heap} {T : List Addr}
/-! ### the tests of spots -/
theorem sc_num : FnScope ["thing"] ["thing"] (defScope s_num) := ⟨rfl, rfl, rfl, by decide +kernel, rfl, by decide +kernel, by decide +kernel⟩
inductive F_num : List Dt → Res → Prop where
  | mk (d : Dt) (h : pl1 d = true) : F_num [d] (.val (.bl (numD d)))
theorem ok_num {f : Addr} {fd : FuncData} (F : Fun K "is_number" "is_number" s_num f fd) (Tx : Txt mg) : FnD P w K mg base T 1 f fd ["thing"] F_num := by
  refine fn_ok F sc_num fun cdv A outer s H E ds r hr hl hF => ?_
  cases hF with
  | mk d h =>
    obtain ⟨n, h1, h2, h3⟩ := pl1_ty h
    refine psd_one (psd_ret (pd_cmp op_isTy9 (nomark _) (pd_type Tx.b_type (pd_v 0 rfl) h1 h2) (pd_bty (n := "int") Tx.b_int (by decide +kernel)) (opd_eqTy h3 (by decide))) ?_)
    show _ = _
    rw [ty_int h1]
theorem sc_state : FnScope ["thing", "many"] ["thing", "many"] (defScope s_state) := ⟨rfl, rfl, rfl, by decide +kernel, rfl, by decide +kernel, by decide +kernel⟩
inductive F_state : List Dt → Res → Prop where
  | mk (d : Dt) (many : Int) (h : pl1 d = true) : F_state [d, .int many] (.val (.bl (stateD d many)))
theorem ok_state {f : Addr} {fd : FuncData} (F : Fun K "is_state" "is_state" s_state f fd) (G_is_number : Callee P w K mg base T "is_number" 1 ["thing"] F_num) : FnD P w K mg base T 2 f fd ["thing", "many"] F_state := by
  refine fn_ok F sc_state fun cdv A outer s H E ds r hr hl hF => ?_
  cases hF with
  | mk d many h =>
    cases hk : numD d with
    | false =>
      have c0 := F_num.mk d h
      rw [hk] at c0
      rw [state_num hk]
      exact psd_one (psd_ret (pd_and (k := false) (l := false) (pr_calln G_is_number hr (pad_cons (pd_v 0 rfl) pad_nil) c0) fun z => nomatch z) rfl)
    | true =>
      obtain ⟨i, rfl⟩ := num_of hk
      exact psd_one (psd_ret (pd_and (k := true) (pr_calln G_is_number hr (pad_cons (pd_v 0 rfl) pad_nil) (F_num.mk (.int i) rfl)) fun _ => (pd_and (k := true) (pr_calln G_is_number hr (pad_cons (pd_v 1 rfl) pad_nil) (F_num.mk (.int many) rfl)) fun _ => (pd_one (d := .bl _) (pd_chain op_le op_lt pd_int (pd_v 0 rfl) (fun _ => pd_v 1 rfl) opd_cmpI (fun _ => opd_cmpI))))) rfl)
theorem sc_sign : FnScope ["thing"] ["thing"] (defScope s_sign) := ⟨rfl, rfl, rfl, by decide +kernel, rfl, by decide +kernel, by decide +kernel⟩
inductive F_sign : List Dt → Res → Prop where
  | mk (d : Dt) (h : pl1 d = true) : F_sign [d] (.val (.bl (signD d)))
theorem ok_sign {f : Addr} {fd : FuncData} (F : Fun K "is_sign" "is_sign" s_sign f fd) (Tx : Txt mg) : FnD P w K mg base T 1 f fd ["thing"] F_sign := by
  refine fn_ok F sc_sign fun cdv A outer s H E ds r hr hl hF => ?_
  cases hF with
  | mk d h =>
    obtain ⟨n, h1, h2, h3⟩ := pl1_ty h
    cases hk : strB d with
    | false =>
      rw [sign_str hk]
      refine psd_one (psd_ret (pd_and (k := decide (n = "str")) (l := false) (pd_cmp op_isTy9 (nomark _) (pd_type Tx.b_type (pd_v 0 rfl) h1 h2) (pd_bty (n := "str") Tx.b_str (by decide +kernel)) (opd_eqTy h3 (by decide))) fun z => ?_) ?_)
      · rw [ty_str h1, hk] at z; cases z
      · show _ = _
        rw [ty_str h1, hk]; rfl
    | true =>
      obtain ⟨l, rfl⟩ := str_of hk
      cases h1
      by_cases hl1 : l.length = 1
      · obtain ⟨c, rfl⟩ := List.length_eq_one_iff.mp hl1
        refine psd_one (psd_ret (pd_and (k := true) (pd_cmp op_isTy9 (nomark _) (pd_type Tx.b_type (pd_v 0 rfl) rfl rfl) (pd_bty (n := "str") Tx.b_str (by decide +kernel)) (opd_eqTy (by decide) (by decide))) fun _ => (pd_and (k := true) (pd_cmp op_eq (nomark _) (pd_len Tx.b_len (pd_v 0 rfl) rfl (by show 1 ≤ sizeLine; decide)) pd_int opd_eqI) fun _ => (pd_one (d := .bl _) (pd_chain op_le_str op_le_str (pd_strE (l := [97]) rfl) (pd_v 0 rfl) (fun _ => pd_strE (l := [122]) rfl) opd_leS (fun _ => opd_leS))))) ?_)
        show Dt.bl (true && (true && (!decide ([c] < [97]) && !decide ([122] < [c])))) = .bl (sgOk c)
        rw [lt1, lt1]
        unfold sgOk
        congr 1
        rw [Bool.eq_iff_iff]
        simp
      · refine psd_one (psd_ret (pd_and (k := true) (pd_cmp op_isTy9 (nomark _) (pd_type Tx.b_type (pd_v 0 rfl) rfl rfl) (pd_bty (n := "str") Tx.b_str (by decide +kernel)) (opd_eqTy (by decide) (by decide))) fun _ => (pd_and (k := decide ((l.length : Int) = 1)) (l := false) (pd_cmp op_eq (nomark _) (pd_len Tx.b_len (pd_v 0 rfl) rfl (pl1_ix h)) pd_int opd_eqI) fun z => ?_)) ?_)
        · have := of_decide_eq_true z
          omega
        · have e : decide ((l.length : Int) = 1) = false := decide_eq_false (by omega)
          have e2 : signD (.str l) = false := by
            match l, hl1 with
            | [], _ => rfl
            | _ :: _ :: _, _ => rfl
          show _ = _
          rw [e, e2]; rfl
theorem sc_pile : FnScope ["thing", "sign"] ["thing"] (defScope s_pile) := ⟨rfl, rfl, rfl, by decide +kernel, rfl, by decide +kernel, by decide +kernel⟩
inductive F_pile : List Dt → Res → Prop where
  | mk (d : Dt) (h : pl1 d = true) : F_pile [d] (.val (.bl (pileD d)))
theorem ok_pile {f c Pt : Addr} {fd : FuncData} (F : Fun K "is_pile" "is_pile" s_pile f fd) (Tx : Txt mg) (hT : Pt ∈ T) (TB : GxR.TabB base mg c Pt) (hcode : fd.code = .ref c) (G_is_sign : Callee P w K mg base T "is_sign" 1 ["thing"] F_sign) : FnD P w K mg base T 3 f fd ["thing"] F_pile := by
  refine fn_okC F sc_pile fun cdv A outer s H E ds r hcd hr hl hF => ?_
  have nd := sc_pile.nd
  cases hF with
  | mk d h =>
    obtain ⟨n, h1, h2, h3⟩ := pl1_ty h
    cases hk : strB d with
    | false =>
      rw [pile_str hk]
      refine psd_one (psd_ret (pd_and (k := decide (n = "str")) (l := false) (pd_cmp op_isTy9 (nomark _) (pd_type Tx.b_type (pd_v 0 rfl) h1 h2) (pd_bty (n := "str") Tx.b_str (by decide +kernel)) (opd_eqTy h3 (by decide))) fun z => ?_) ?_)
      · rw [ty_str h1, hk] at z; cases z
      · show _ = _
        rw [ty_str h1, hk]; rfl
    | true =>
      obtain ⟨l, rfl⟩ := str_of hk
      cases h1
      refine psd_one (psd_ret (pd_and (k := true) (pd_cmp op_isTy9 (nomark _) (pd_type Tx.b_type (pd_v 0 rfl) rfl rfl) (pd_bty (n := "str") Tx.b_str (by decide +kernel)) (opd_eqTy (by decide) (by decide))) fun _ => pd_one (pd_allG (bs := l.map sgOk) hT hr nd Tx.b_all TB (by show cdv = .ref c; rw [← hcd]; exact hcode) (gok_by (N := ["thing", "sign"]) (sc := defScope s_pile) (own := [("sign", 1)]) (by decide +kernel)) (pid_str (pd_v 0 rfl)) (by rw [List.length_map, List.length_map]) ?turn)) ?_)
      case turn =>
        intro i d b e1 e2 _
        rw [List.getElem?_map] at e1 e2
        cases hx : l[i]? with
        | none => rw [hx] at e1; cases e1
        | some x =>
          rw [hx] at e1 e2
          cases e1; cases e2
          exact ⟨[1], _, by simp, fun s0 H0 C code fp => gd_name 1 nd, fun s0 H0 C code fp => pr_calln G_is_sign (room_gen hr) (pad_cons (pd_v 1 rfl) pad_nil) (F_sign.mk (.str [x]) (pl1_str (by show 1 ≤ 100000; decide) fun y hy => by rw [List.mem_singleton.mp hy]; exact pl1_okS h x (List.mem_of_getElem? hx)))⟩
      show Dt.bl (true && (l.map sgOk).all id) = .bl (l.all sgOk)
      rw [List.all_map]
      rfl
theorem sc_tuple : FnScope ["thing", "length"] ["thing", "length"] (defScope s_tuple) := ⟨rfl, rfl, rfl, by decide +kernel, rfl, by decide +kernel, by decide +kernel⟩
inductive F_tuple : List Dt → Res → Prop where
  | mk (d : Dt) (n : Nat) (h : pl1 d = true) : F_tuple [d, .int (n : Int)] (.val (.bl (tupleD d n)))
theorem ok_tuple {f : Addr} {fd : FuncData} (F : Fun K "is_tuple" "is_tuple" s_tuple f fd) (Tx : Txt mg) : FnD P w K mg base T 1 f fd ["thing", "length"] F_tuple := by
  refine fn_ok F sc_tuple fun cdv A outer s H E ds r hr hl hF => ?_
  cases hF with
  | mk d m h =>
    obtain ⟨n, h1, h2, h3⟩ := pl1_ty h
    cases hk : tupB d with
    | false =>
      rw [tuple_tup hk]
      refine psd_one (psd_ret (pd_and (k := decide (n = "tuple")) (l := false) (pd_cmp op_isTy9 (nomark _) (pd_type Tx.b_type (pd_v 0 rfl) h1 h2) (pd_bty (n := "tuple") Tx.b_tuple (by decide +kernel)) (opd_eqTy h3 (by decide))) fun z => ?_) ?_)
      · rw [ty_tup h1, hk] at z; cases z
      · show _ = _
        rw [ty_tup h1, hk]; rfl
    | true =>
      obtain ⟨l, rfl⟩ := tup_of hk
      cases h1
      refine psd_one (psd_ret (pd_and (k := true) (pd_cmp op_isTy9 (nomark _) (pd_type Tx.b_type (pd_v 0 rfl) rfl rfl) (pd_bty (n := "tuple") Tx.b_tuple (by decide +kernel)) (opd_eqTy (by decide) (by decide))) fun _ => (pd_one (pd_cmp op_eq (nomark _) (pd_len Tx.b_len (pd_v 0 rfl) rfl) (pd_v 1 rfl) opd_eqI))) ?_)
      show Dt.bl (true && decide ((l.length : Int) = (m : Int))) = .bl (decide (l.length = m))
      rw [Bool.true_and]
      congr 1
      exact decide_eq_decide.mpr ⟨fun h => by omega, fun h => by omega⟩
theorem sc_isrule : FnScope ["thing", "many", "state", "sign", "to", "push"] ["thing", "many"] (defScope s_isrule) := ⟨rfl, rfl, rfl, by decide +kernel, rfl, by decide +kernel, by decide +kernel⟩
inductive F_isrule : List Dt → Res → Prop where
  | mk (d : Dt) (many : Int) (h : pl2 d = true) : F_isrule [d, .int many] (.val (.bl (ruleD d many)))
theorem ok_isrule {f : Addr} {fd : FuncData} (F : Fun K "is_rule" "is_rule" s_isrule f fd) (Tx : Txt mg) (G_is_tuple : Callee P w K mg base T "is_tuple" 1 ["thing", "length"] F_tuple) (G_is_state : Callee P w K mg base T "is_state" 2 ["thing", "many"] F_state) (G_is_sign : Callee P w K mg base T "is_sign" 1 ["thing"] F_sign)
    (G_is_pile : Callee P w K mg base T "is_pile" 3 ["thing"] F_pile) : FnD P w K mg base T 4 f fd ["thing", "many"] F_isrule := by
  refine fn_ok F sc_isrule fun cdv A outer s H E ds r hr hl hF => ?_
  have nd := sc_isrule.nd
  have hr1 : Room 1 _ := hr.mono (by decide : 1 ≤ 3)
  have hr2 : Room 2 _ := hr.mono (by decide : 2 ≤ 3)
  cases hF with
  | mk d many h =>
    have ct := F_tuple.mk d 4 (pl2_one h)
    cases hk : tupleD d 4 with
    | false =>
      rw [hk] at ct
      rw [rule_tuple hk]
      exact psd_cons (psd_if (k := true) (ptd_not (k := false) (ptd_val (pr_calln G_is_tuple hr1 (pad_cons (pd_v 0 rfl) (pad_cons pd_int pad_nil)) ct))) (fun _ => psd_one (psd_ret pd_bl rfl)) (fun z => nomatch z))
    | true =>
      rw [hk] at ct
      obtain ⟨l, rfl, hl4⟩ := tuple_of hk
      obtain ⟨a, b, c, e, rfl⟩ := four_of hl4
      have hp := pl2_tup h
      have ha := hp a (by simp)
      have hb := hp b (by simp)
      have hc := hp c (by simp)
      have he := hp e (by simp)
      rw [rule_four]
      refine psd_cons (psd_if (k := false) (ptd_not (k := true) (ptd_val (pr_calln G_is_tuple hr1 (pad_cons (pd_v 0 rfl) (pad_cons pd_int pad_nil)) ct))) (fun z => nomatch z) (fun _ => psd_nil ?_))
      refine psd_cons (psd_asg (pd_v 0 rfl) (gd_tup rfl (gds_cons (gd_name 2 nd) (gds_cons (gd_name 3 nd) (gds_cons (gd_name 4 nd) (gds_cons (gd_name 5 nd) gds_nil))))) ?_)
      refine psd_cons (psd_if (k := !(stateD a many && (signD b && stateD c many))) (ptd_k (pwd_or (ptd_not (ptd_val (pr_calln G_is_state hr2 (pad_cons (pd_v 2 rfl) (pad_cons (pd_v 1 rfl) pad_nil)) (F_state.mk a many ha)))) fun _ => (pwd_or (ptd_not (ptd_val (pr_calln G_is_sign hr1 (pad_cons (pd_v 3 rfl) pad_nil) (F_sign.mk b hb)))) fun _ => (pwd_or1 (ptd_not (ptd_val (pr_calln G_is_state hr2 (pad_cons (pd_v 4 rfl) (pad_cons (pd_v 1 rfl) pad_nil)) (F_state.mk c many hc))))))).pt (by rw [Bool.not_and, Bool.not_and])) (fun z => ?_) (fun z => psd_nil ?_))
      · have z2 : (stateD a many && (signD b && stateD c many)) = false := by
          cases q : (stateD a many && (signD b && stateD c many)) with
          | false => rfl
          | true => rw [q] at z; cases z
        rw [z2]
        exact psd_one (psd_ret pd_bl rfl)
      · have z2 : (stateD a many && (signD b && stateD c many)) = true := by
          cases q : (stateD a many && (signD b && stateD c many)) with
          | true => rfl
          | false => rw [q] at z; cases z
        rw [z2]
        cases hpe : pileD e with
        | false =>
          have cp := F_pile.mk e he
          rw [hpe] at cp
          exact psd_one (psd_ret (pd_and (k := false) (l := false) (pr_calln G_is_pile hr (pad_cons (pd_v 5 rfl) pad_nil) cp) fun z => nomatch z) rfl)
        | true =>
          have cp := F_pile.mk e he
          rw [hpe] at cp
          cases e with
          | str p =>
            refine psd_one (psd_ret (pd_and (k := true) (pr_calln G_is_pile hr (pad_cons (pd_v 5 rfl) pad_nil) cp) fun _ => (pd_one (d := .bl _) (pd_cmp op_le (nomark _) (pd_len Tx.b_len (pd_v 5 rfl) rfl (pl1_ix he)) pd_int opd_cmpI))) ?_)
            show Dt.bl (true && decide ((p.length : Int) ≤ 2)) = .bl (true && (true && decide (p.length ≤ 2)))
            rw [Bool.true_and, Bool.true_and, Bool.true_and]
            congr 1
            exact decide_eq_decide.mpr ⟨fun h => by omega, fun h => by omega⟩
          | _ => cases hpe
theorem sc_isspot2 : FnScope ["thing", "many", "state", "pile"] ["thing", "many"] (defScope s_isspot) := ⟨rfl, rfl, rfl, by decide +kernel, rfl, by decide +kernel, by decide +kernel⟩
inductive F_spot : List Dt → Res → Prop where
  | mk (d : Dt) (many : Int) (h : pl2 d = true) : F_spot [d, .int many] (.val (.bl (spotD d many)))
theorem ok_spot {f : Addr} {fd : FuncData} (F : Fun K "is_spot" "is_spot" s_isspot f fd) (G_is_tuple : Callee P w K mg base T "is_tuple" 1 ["thing", "length"] F_tuple) (G_is_state : Callee P w K mg base T "is_state" 2 ["thing", "many"] F_state)
    (G_is_pile : Callee P w K mg base T "is_pile" 3 ["thing"] F_pile) : FnD P w K mg base T 4 f fd ["thing", "many"] F_spot := by
  refine fn_ok F sc_isspot2 fun cdv A outer s H E ds r hr hl hF => ?_
  have nd := sc_isspot2.nd
  have hr1 : Room 1 _ := hr.mono (by decide : 1 ≤ 3)
  have hr2 : Room 2 _ := hr.mono (by decide : 2 ≤ 3)
  cases hF with
  | mk d many h =>
    have ct := F_tuple.mk d 2 (pl2_one h)
    cases hk : tupleD d 2 with
    | false =>
      rw [hk] at ct
      rw [spot_tuple hk]
      exact psd_cons (psd_if (k := true) (ptd_not (k := false) (ptd_val (pr_calln G_is_tuple hr1 (pad_cons (pd_v 0 rfl) (pad_cons pd_int pad_nil)) ct))) (fun _ => psd_one (psd_ret pd_bl rfl)) (fun z => nomatch z))
    | true =>
      rw [hk] at ct
      obtain ⟨l, rfl, hl4⟩ := tuple_of hk
      obtain ⟨a, b, rfl⟩ := two_of hl4
      have hp := pl2_tup h
      have ha := hp a (by simp)
      have hb := hp b (by simp)
      refine psd_cons (psd_if (k := false) (ptd_not (k := true) (ptd_val (pr_calln G_is_tuple hr1 (pad_cons (pd_v 0 rfl) (pad_cons pd_int pad_nil)) ct))) (fun z => nomatch z) (fun _ => psd_nil ?_))
      refine psd_cons (psd_asg (pd_v 0 rfl) (gd_tup rfl (gds_cons (gd_name 2 nd) (gds_cons (gd_name 3 nd) gds_nil))) ?_)
      exact psd_one (psd_ret (pd_and (pr_calln G_is_state hr2 (pad_cons (pd_v 2 rfl) (pad_cons (pd_v 1 rfl) pad_nil)) (F_state.mk a many ha)) fun _ => (pd_one (d := .bl _) (pr_calln G_is_pile hr (pad_cons (pd_v 3 rfl) pad_nil) (F_pile.mk b hb)))) rfl)
/-! ### the script's cells -/
theorem sc_cell : FnScope ["_law_script", "_law_k"] ["_law_script", "_law_k"] (defScope s_cell) := ⟨rfl, rfl, rfl, by decide +kernel, rfl, by decide +kernel, by decide +kernel⟩
inductive F_cell : List Dt → Res → Prop where
  | mk (ns : List Int) (k : Nat) : F_cell [.scr ns, .int (k : Int)] (.val (.int (cell ns k)))
theorem ok_cell {f : Addr} {fd : FuncData} (F : Fun K "_law_cell_at" "_law_cell_at" s_cell f fd) (Tx : Txt mg) : FnD P w K mg base T 1 f fd ["_law_script", "_law_k"] F_cell := by
  refine fn_ok F sc_cell fun cdv A outer s H E ds r hr hl hF => ?_
  have nd := sc_cell.nd
  cases hF with
  | mk ns k =>
    refine psd_cons (psd_if (ptd_cmp op_lt (nomark _) (pd_v 1 rfl) (pd_len Tx.b_len (pd_v 0 rfl) rfl) opd_cmpI) (fun hc => ?_) (fun hc => ?_))
    · have hk := of_decide_eq_true hc
      refine psd_one (psd_ret (pd_ix (pd_v 0 rfl) (pd_v 1 rfl) (dix_scr (Int.natCast_nonneg k) hk)) ?_)
      show _ = _
      unfold cell
      simp
    · have hk := of_decide_eq_false hc
      refine psd_nil (psd_one (psd_ret pd_int ?_))
      show _ = _
      unfold cell
      have : ns.length ≤ k := by omega
      simp [List.getD, this]
/-! ### signs, texts -/
theorem sc_lsign : FnScope ["_law_cell"] ["_law_cell"] (defScope s_lsign) := ⟨rfl, rfl, rfl, by decide +kernel, rfl, by decide +kernel, by decide +kernel⟩
inductive F_lsign : List Dt → Res → Prop where
  | mk (c : Int) : F_lsign [.int c] (.val (.str [sgn c]))
theorem ok_lsign {f : Addr} {fd : FuncData} (F : Fun K "_law_sign" "_law_sign" s_lsign f fd) : FnD P w K mg base T 1 f fd ["_law_cell"] F_lsign := by
  refine fn_ok F sc_lsign fun cdv A outer s H E ds r hr hl hF => ?_
  cases hF with
  | mk c =>
    have b := mod_bounds c (m := 26) (by decide)
    exact psd_one (psd_ret (pd_ix (pd_strE (l := abc) (by decide +kernel)) (pd_modI (pd_v 0 rfl) pd_int (by decide)) (dix_str b.1 b.2) (by show abc.length ≤ _; decide)) rfl)
theorem sc_text : FnScope ["_law_cell", "_law_size", "_law_k"] ["_law_cell", "_law_size"] (defScope s_text) := ⟨rfl, rfl, rfl, by decide +kernel, rfl, by decide +kernel, by decide +kernel⟩
inductive F_text : List Dt → Res → Prop where
  | mk (c n : Int) (h0 : 0 ≤ n) (h1 : n ≤ 100) : F_text [.int c, .int n] (.val (.str (textD c n.toNat)))
theorem ok_text {f : Addr} {fd : FuncData} (F : Fun K "_law_text" "_law_text" s_text f fd) (Tx : Txt mg) (G_sign : Callee P w K mg base T "_law_sign" 1 ["_law_cell"] F_lsign) : FnD P w K mg base T 2 f fd ["_law_cell", "_law_size"] F_text := by
  refine fn_ok F sc_text fun cdv A outer s H E ds r hr hl hF => ?_
  have nd := sc_text.nd
  cases hF with
  | mk c n h0 h1 =>
    have hzs : ((List.range n.toNat).map fun (k : Nat) => [sgn (c / (1 + (k : Int)) + 7 * (k : Int))]).flatten = textD c n.toNat := by
      unfold textD
      generalize List.range n.toNat = rg
      induction rg with
      | nil => rfl
      | cons a r ih => rw [List.map_cons, List.flatten_cons, List.map_cons, ih]; rfl
    refine psd_one (psd_ret (d := .str (textD c n.toNat)) ?_ rfl)
    rw [← hzs]
    refine pd_join rfl (zs := (List.range n.toNat).map fun (k : Nat) => [sgn (c / (1 + (k : Int)) + 7 * (k : Int))]) (PR.dat (o := .lst _) (pr_lc rfl nd (blkOk_by (N := ["_law_cell", "_law_size", "_law_k"]) (sc := defScope s_text) (own := [("_law_k", 2)]) (by decide +kernel)) (pid_range1 Tx.b_range (pd_v 1 rfl) (by omega) (by omega)) ?hl ?hz ?turn)) ?hj
    case hl => rw [rangeN_len]; simp
    case hz => rw [rangeN_len]; exact Nat.lt_of_le_of_lt (m := 100) (by omega) (by decide)
    case hj => rw [hzs, textD_len]; exact Nat.le_trans (show n.toNat ≤ 100 by omega) (by decide)
    case turn =>
      intro i d o h1 h2
      rw [List.map_map] at h2
      obtain ⟨hi, rfl, rfl⟩ := rangeN_get2 h1 h2
      refine ⟨[2], _, by simp, fun s0 H0 C cl fp => gd_name 2 nd, fun s0 H0 C cl fp => ?_⟩
      exact pr_calln G_sign hr (pad_cons (pd_addI (pd_divI (pd_v 0 rfl) (pd_addI pd_int (pd_v 2 rfl)) ⟨by omega, by omega⟩) (pd_mulI pd_int (pd_v 2 rfl) cm_l)) pad_nil) (F_lsign.mk _)
/-! ### odd things -/
theorem sc_odds : FnScope ["_law_cell", "_law_many", "_law_far"] ["_law_cell", "_law_many"] (defScope s_odds) := ⟨rfl, rfl, rfl, by decide +kernel, rfl, by decide +kernel, by decide +kernel⟩
inductive F_odds : List Dt → Res → Prop where
  | mk (c m : Int) : F_odds [.int c, .int m] (.val (oddS c m))
theorem ok_odds {f : Addr} {fd : FuncData} (F : Fun K "_law_odd_state" "_law_odd_state" s_odds f fd) : FnD P w K mg base T 1 f fd ["_law_cell", "_law_many"] F_odds := by
  refine fn_ok F sc_odds fun cdv A outer s H E ds r hr hl hF => ?_
  have nd := sc_odds.nd
  cases hF with
  | mk c m =>
    have b := mod_bounds c (m := 10) (by decide)
    refine psd_cons (psd_set 2 nd (d := .int (c / 8 % 10 ^ 30)) (pd_modI (pd_divI (pd_v 0 rfl) pd_int ⟨by decide, by decide⟩) (pd_powI pd_int pd_int ⟨by decide, by decide, by decide⟩) (by decide)) ?_)
    exact psd_one (psd_ret (pd_ix (d1 := .lst (oddSL c m)) (pr_lst (pad_cons (pd_negI pd_int) (pad_cons (pd_v 1 rfl) (pad_cons (pd_addI (pd_v 1 rfl) (pd_v 2 rfl)) (pad_cons (pd_subI (pd_negI pd_int) (pd_v 2 rfl)) (pad_cons pd_bl (pad_cons pd_bl (pad_cons pd_non (pad_cons (pd_strE (l := [48]) rfl) (pad_cons (pr_lst (pad_cons pd_int pad_nil)).dat (pad_cons (pd_tup (pad_cons pd_int pad_nil)) pad_nil))))))))))).dat (pd_modI (pd_v 0 rfl) pd_int (by decide)) (dix_l .non b.1 b.2)) rfl)
theorem sc_oddt : FnScope ["_law_cell", "_law_text_here", "_law_some", "_law_at", "_law_odd"] ["_law_cell", "_law_text_here"] (defScope s_oddt) := ⟨rfl, rfl, rfl, by decide +kernel, rfl, by decide +kernel, by decide +kernel⟩
inductive F_oddt : List Dt → Res → Prop where
  | mk (c : Int) (t : List Nat) (h : t.length ≤ 1000) : F_oddt [.int c, .str t] (.val (oddT c t))
theorem ok_oddt {f : Addr} {fd : FuncData} (F : Fun K "_law_odd_text" "_law_odd_text" s_oddt f fd) (Tx : Txt mg) : FnD P w K mg base T 1 f fd ["_law_cell", "_law_text_here"] F_oddt := by
  refine fn_ok F sc_oddt fun cdv A outer s H E ds r hr hl hF => ?_
  have nd := sc_oddt.nd
  cases hF with
  | mk c t ht =>
    have b := mod_bounds c (m := 8) (by decide)
    have b13 := mod_bounds (c / 64) (m := 13) (by decide)
    have hsz : t.length ≤ sizeLine := sz_le (by omega)
    have h1 := len_cutD t none (some (c / 8 % ((t.length : Int) + 1)))
    have h2 := len_cutD t (some (c / 8 % ((t.length : Int) + 1))) none
    refine psd_cons (psd_set 2 nd (d := .str oddChars) (pd_strE (by decide +kernel)) ?_)
    refine psd_cons (psd_set 3 nd (d := .int (c / 8 % ((t.length : Int) + 1))) (pd_modI (pd_divI (pd_v 0 rfl) pd_int ⟨by decide, by decide⟩) (pd_addI (pd_len Tx.b_len (pd_v 1 rfl) rfl hsz) pd_int) (by omega)) ?_)
    refine psd_cons (psd_set 4 nd (d := .str (oddTT c t)) (pd_addS (pd_addS (pd_sliceS (pd_v 1 rfl) pod_none (pod_some (pd_v 3 rfl)) hsz) (pd_ix (pd_v 2 rfl) (pd_modI (pd_divI (pd_v 0 rfl) pd_int ⟨by decide, by decide⟩) (pd_len Tx.b_len (pd_v 2 rfl) rfl (by show oddChars.length ≤ _; decide)) (by decide)) (dix_str b13.1 b13.2) (by show oddChars.length ≤ _; decide)) (sz_le (by simp; omega))) (pd_sliceS (pd_v 1 rfl) (pod_some (pd_v 3 rfl)) pod_none hsz) (sz_le (by simp; omega))) ?_)
    exact psd_one (psd_ret (pd_ix (d1 := .lst (oddTL c t)) (pr_lst (pad_cons (pd_v 4 rfl) (pad_cons pd_non (pad_cons pd_int (pad_cons (pr_lst (pad_cons (pd_v 1 rfl) pad_nil)).dat (pad_cons (pd_tup (pad_cons (pd_v 1 rfl) pad_nil)) (pad_cons (pd_v 4 rfl) (pad_cons pr_dK.dat (pad_cons (pd_v 4 rfl) pad_nil))))))))).dat (pd_modI (pd_v 0 rfl) pd_int (by decide)) (dix_l .non b.1 b.2)) rfl)
/-! ### the law's own tests -/
theorem sc_sgood : FnScope ["_law_thing", "_law_many"] ["_law_thing", "_law_many"] (defScope s_sgood) := ⟨rfl, rfl, rfl, by decide +kernel, rfl, by decide +kernel, by decide +kernel⟩
theorem ok_sgood {f : Addr} {fd : FuncData} (F : Fun K "_law_state_good" "_law_state_good" s_sgood f fd) (Tx : Txt mg) : FnD P w K mg base T 1 f fd ["_law_thing", "_law_many"] F_state := by
  refine fn_ok F sc_sgood fun cdv A outer s H E ds r hr hl hF => ?_
  cases hF with
  | mk d many h =>
    obtain ⟨n, h1, h2, h3⟩ := isi_int h
    obtain ⟨n', h1', h2', h3'⟩ := isi_bool h
    cases hk : numD d with
    | true =>
      obtain ⟨i, rfl⟩ := num_of hk
      exact psd_one (psd_ret (pd_and (k := true) (pd_isi (m := "int") Tx.b_isinstance (pd_v 0 rfl) (pd_bty (n := "int") Tx.b_int (by decide +kernel)) h1 h3 h2) fun _ => (pd_and (k := true) (pd_not (k := false) (pd_isi (m := "bool") Tx.b_isinstance (pd_v 0 rfl) (pd_bty (n := "bool") Tx.b_bool (by decide +kernel)) h1' h3' h2')) fun _ => (pd_one (d := .bl _) (pd_chain op_le op_lt pd_int (pd_v 0 rfl) (fun _ => pd_v 1 rfl) opd_cmpI (fun _ => opd_cmpI))))) rfl)
    | false =>
      rw [state_num hk]
      rw [hk] at h3
      cases hb : blD d with
      | false =>
        rw [hb] at h3
        exact psd_one (psd_ret (pd_and (k := false) (l := false) (pd_isi (m := "int") Tx.b_isinstance (pd_v 0 rfl) (pd_bty (n := "int") Tx.b_int (by decide +kernel)) h1 h3 h2) fun z => nomatch z) rfl)
      | true =>
        rw [hb] at h3 h3'
        exact psd_one (psd_ret (pd_and (k := true) (pd_isi (m := "int") Tx.b_isinstance (pd_v 0 rfl) (pd_bty (n := "int") Tx.b_int (by decide +kernel)) h1 h3 h2) fun _ => (pd_and (k := false) (l := false) (pd_not (k := true) (pd_isi (m := "bool") Tx.b_isinstance (pd_v 0 rfl) (pd_bty (n := "bool") Tx.b_bool (by decide +kernel)) h1' h3' h2')) fun z => nomatch z)) rfl)
theorem sc_pgood : FnScope ["_law_thing", "_law_sign_here"] ["_law_thing"] (defScope s_pgood) := ⟨rfl, rfl, rfl, by decide +kernel, rfl, by decide +kernel, by decide +kernel⟩
inductive F_pgood : List Dt → Res → Prop where
  | mk (d : Dt) (h : pl1 d = true) : F_pgood [d] (.val (.bl (pileD d)))
theorem mem_abc (c : Nat) : decide (c ∈ abc) = sgOk c := by
  unfold abc sgOk
  rw [Bool.eq_iff_iff]
  simp
  constructor
  · rintro ⟨a, h1, h2⟩; omega
  · rintro ⟨h1, h2⟩; exact ⟨c - 97, by omega, by omega⟩
def badL (l : List Nat) : List (Option Dt) := l.map fun c => if sgOk c = true then none else some (.str [c])
theorem badL_all (l : List Nat) : ((badL l).filterMap id).isEmpty = l.all sgOk := by
  unfold badL
  induction l with
  | nil => rfl
  | cons a l ih =>
    rw [List.map_cons, List.all_cons]
    cases h : sgOk a with
    | true => simpa using ih
    | false => simp
theorem badL_gd (l : List Nat) (h : ∀ c ∈ l, c < 1000) : ∀ d ∈ (badL l).filterMap id, gd 1 d = true := fun d hd => by
  obtain ⟨o, ho, e⟩ := List.mem_filterMap.mp hd
  obtain ⟨c, hc, rfl⟩ := List.mem_map.mp ho
  split at e
  · cases e
  · cases e
    exact gd_str fun x hx => by rw [List.mem_singleton.mp hx]; exact h c hc
theorem ok_pgood {f : Addr} {fd : FuncData} (F : Fun K "_law_pile_good" "_law_pile_good" s_pgood f fd) (Tx : Txt mg) : FnD P w K mg base T 1 f fd ["_law_thing"] F_pgood := by
  refine fn_ok F sc_pgood fun cdv A outer s H E ds r hr hl hF => ?_
  have nd := sc_pgood.nd
  have hu64 := hr.units
  cases hF with
  | mk d h =>
    obtain ⟨n, h1, h2, h3⟩ := isi_str h
    cases hk : strB d with
    | false =>
      rw [hk] at h3
      rw [pile_str hk]
      exact psd_cons (psd_if (k := true) (ptd_not (k := false) (ptd_val (pd_isi (m := "str") Tx.b_isinstance (pd_v 0 rfl) (pd_bty (n := "str") Tx.b_str (by decide +kernel)) h1 h3 h2))) (fun _ => psd_one (psd_ret pd_bl rfl)) (fun z => nomatch z))
    | true =>
      obtain ⟨l, rfl⟩ := str_of hk
      refine psd_cons (psd_if (k := false) (ptd_not (k := true) (ptd_val (pd_isi (m := "str") Tx.b_isinstance (pd_v 0 rfl) (pd_bty (n := "str") Tx.b_str (by decide +kernel)) h1 h3 h2))) (fun z => nomatch z) (fun _ => psd_nil ?_))
      refine psd_one (psd_ret (pd_cmp (op_eqD hu64) (nomark _) (PR.dat (o := .lst ((badL l).filterMap id)) (pr_lcIf rfl nd (blkOk_by (N := ["_law_thing", "_law_sign_here"]) (sc := defScope s_pgood) (own := [("_law_sign_here", 1)]) (by decide +kernel)) (pid_str (pd_v 0 rfl)) (sel := badL l) (by unfold badL; simp) ?hz ?turn)) (pr_lst pad_nil).dat (opd_eqD (n := 2) (by decide) (gd_lst (badL_gd l (pl1_okS h))) (by decide))) ?_)
      case hz =>
        rw [List.length_map]
        have h4 := ((Bool.and_eq_true _ _).mp ((Bool.and_eq_true _ _).mp ((Bool.and_eq_true _ _).mp h).2).2).1
        exact Nat.lt_of_le_of_lt (of_decide_eq_true h4) (by decide)
      case turn =>
        intro i d o e1 e2
        unfold badL at e2
        rw [List.getElem?_map] at e1 e2
        cases hx : l[i]? with
        | none => rw [hx] at e1; cases e1
        | some x =>
          rw [hx] at e1 e2
          cases e1; cases e2
          refine ⟨[1], _, !sgOk x, by simp, fun s0 H0 C cl fp => gd_name 1 nd, fun s0 H0 C cl fp => ?_, fun z => ?_, fun z => ?_⟩
          · rw [← mem_abc]
            exact ptd_cmp op_notIn_sign rfl (pd_v 1 rfl) (pd_strE (by decide +kernel)) opd_notinS
          · refine ⟨.str [x], ?_, fun s0 H0 C cl fp => pd_v 1 rfl⟩
            show (if sgOk x = true then none else some (Dt.str [x])) = some (.str [x])
            rw [if_neg fun q => by rw [q] at z; cases z]
          · show (if sgOk x = true then none else some (Dt.str [x])) = none
            rw [if_pos (by cases q : sgOk x with | true => rfl | false => rw [q] at z; cases z)]
      show Dt.bl (deq 2 (.lst _) (.lst [])) = .bl (l.all sgOk)
      rw [deq_lst_nil, badL_all]
theorem sc_rgood : FnScope ["_law_thing", "_law_many"] ["_law_thing", "_law_many"] (defScope s_rgood) := ⟨rfl, rfl, rfl, by decide +kernel, rfl, by decide +kernel, by decide +kernel⟩
def one1 (d : Dt) : Bool := match d with | .str p => decide (p.length = 1) | _ => false
def le2 (d : Dt) : Bool := match d with | .str p => decide (p.length ≤ 2) | _ => false
theorem rule_four2 {a b c e : Dt} {m : Int} : ruleD (.tup [a, b, c, e]) m = ((pileD b && pileD e) && ((one1 b && le2 e) && (stateD a m && stateD c m))) := by
  have hb : signD b = (pileD b && one1 b) := by
    cases b with
    | str l =>
      match l with
      | [] => rfl
      | [x] => show sgOk x = ((sgOk x && true) && true); simp
      | x :: y :: l =>
        show false = (_ && decide ((x :: y :: l).length = 1))
        simp
    | _ => rfl
  have h : ruleD (.tup [a, b, c, e]) m = ((stateD a m && (signD b && stateD c m)) && (pileD e && le2 e)) := rule_four
  rw [h, hb]
  generalize stateD a m = A
  generalize stateD c m = C
  generalize pileD b = B
  generalize pileD e = E
  generalize one1 b = F
  generalize le2 e = G
  revert A B C E F G
  decide
theorem bl_cases (b : Bool) : b = true ∨ b = false := by cases b <;> simp
theorem ok_rgood {f : Addr} {fd : FuncData} (F : Fun K "_law_rule_good" "_law_rule_good" s_rgood f fd) (Tx : Txt mg) (G_pile : Callee P w K mg base T "_law_pile_good" 1 ["_law_thing"] F_pgood) (G_state : Callee P w K mg base T "_law_state_good" 1 ["_law_thing", "_law_many"] F_state) : FnD P w K mg base T 2 f fd ["_law_thing", "_law_many"] F_isrule := by
  refine fn_ok F sc_rgood fun cdv A outer s H E ds r hr hl hF => ?_
  cases hF with
  | mk d many h =>
    obtain ⟨n, h1, h2, h3⟩ := isi_tuple (pl2_one h)
    cases hk : tupB d with
    | false =>
      rw [hk] at h3
      rw [rule_tuple (tuple_tup hk)]
      exact psd_cons (psd_if (k := true) (pwd_or (k := true) (l := false) (ptd_not (k := false) (ptd_val (pd_isi (m := "tuple") Tx.b_isinstance (pd_v 0 rfl) (pd_bty (n := "tuple") Tx.b_tuple (by decide +kernel)) h1 h3 h2))) fun z => nomatch z).pt (fun _ => psd_one (psd_ret pd_bl rfl)) (fun z => nomatch z))
    | true =>
      obtain ⟨l, rfl⟩ := tup_of hk
      refine psd_cons (psd_if (k := !decide (l.length = 4)) (ptd_k (pwd_or (k := false) (ptd_not (k := true) (ptd_val (pd_isi (m := "tuple") Tx.b_isinstance (pd_v 0 rfl) (pd_bty (n := "tuple") Tx.b_tuple (by decide +kernel)) h1 h3 h2))) fun _ => (pwd_or1 (ptd_cmp op_ne (nomark _) (pd_len Tx.b_len (pd_v 0 rfl) rfl) pd_int opd_neI))).pt (by rw [Bool.false_or]; congr 1; exact decide_eq_decide.mpr ⟨fun h => by omega, fun h => by omega⟩)) (fun z => ?_) (fun z => psd_nil ?_))
      · have : tupleD (.tup l) 4 = false := by
          show decide (l.length = 4) = false
          cases q : decide (l.length = 4) with
          | false => rfl
          | true => rw [q] at z; cases z
        rw [rule_tuple this]
        exact psd_one (psd_ret pd_bl rfl)
      have hl4 : l.length = 4 := by
        cases q : decide (l.length = 4) with
        | true => exact of_decide_eq_true q
        | false => rw [q] at z; cases z
      obtain ⟨a, b, c, e, rfl⟩ := four_of hl4
      have hp := pl2_tup h
      have ha := hp a (by simp)
      have hb := hp b (by simp)
      have hc := hp c (by simp)
      have he := hp e (by simp)
      rw [rule_four2]
      refine psd_cons (psd_if (k := !(pileD b && pileD e)) (ptd_k (pwd_or (ptd_not (ptd_val (pr_calln G_pile hr (pad_cons (pd_ix (pd_v 0 rfl) pd_int rfl) pad_nil) (F_pgood.mk b hb)))) fun _ => (pwd_or1 (ptd_not (ptd_val (pr_calln G_pile hr (pad_cons (pd_ix (pd_v 0 rfl) pd_int rfl) pad_nil) (F_pgood.mk e he)))))).pt (by rw [Bool.not_and])) (fun z => ?_) (fun z => psd_nil ?_))
      · rcases bl_cases (pileD b && pileD e) with q | q
        · rw [q] at z; cases z
        · rw [q]
          exact psd_one (psd_ret pd_bl rfl)
      rcases bl_cases (pileD b && pileD e) with q | q
      rotate_left
      · rw [q] at z; cases z
      obtain ⟨qb, qe⟩ := (Bool.and_eq_true _ _).mp q
      rw [q]
      cases b with
      | str lb =>
        cases e with
        | str le =>
          refine psd_cons (psd_if (k := !(decide (lb.length = 1) && decide (le.length ≤ 2))) (ptd_k (pwd_or (ptd_cmp op_ne (nomark _) (pd_len Tx.b_len (pd_ix (pd_v 0 rfl) pd_int rfl) rfl (pl1_ix hb)) pd_int opd_neI) fun _ => (pwd_or1 (ptd_cmp op_gt (nomark _) (pd_len Tx.b_len (pd_ix (pd_v 0 rfl) pd_int rfl) rfl (pl1_ix he)) pd_int opd_cmpI))).pt ?cond) (fun z => ?_) (fun z => psd_nil ?_))
          case cond =>
            rw [Bool.not_and]
            congr 1
            · congr 1
              exact decide_eq_decide.mpr ⟨fun h => by omega, fun h => by omega⟩
            · rw [← decide_not]
              exact decide_eq_decide.mpr ⟨fun h => by omega, fun h => by omega⟩
          · rcases bl_cases (decide (lb.length = 1) && decide (le.length ≤ 2)) with q2 | q2
            · rw [q2] at z; cases z
            · refine psd_one (psd_ret pd_bl ?_)
              show Dt.bl false = .bl (true && ((decide (lb.length = 1) && decide (le.length ≤ 2)) && _))
              rw [q2]
              rfl
          · rcases bl_cases (decide (lb.length = 1) && decide (le.length ≤ 2)) with q2 | q2
            rotate_left
            · rw [q2] at z; cases z
            refine psd_one (psd_ret (pd_and (pr_calln G_state hr (pad_cons (pd_ix (pd_v 0 rfl) pd_int rfl) (pad_cons (pd_v 1 rfl) pad_nil)) (F_state.mk a many ha)) fun _ => (pd_one (d := .bl _) (pr_calln G_state hr (pad_cons (pd_ix (pd_v 0 rfl) pd_int rfl) (pad_cons (pd_v 1 rfl) pad_nil)) (F_state.mk c many hc)))) ?_)
            show Dt.bl (stateD a many && stateD c many) = .bl (true && ((decide (lb.length = 1) && decide (le.length ≤ 2)) && (stateD a many && stateD c many)))
            rw [q2]
            rfl
        | _ => cases qe
      | _ => cases qb
theorem sc_spgood : FnScope ["_law_thing", "_law_many"] ["_law_thing", "_law_many"] (defScope s_spgood) := ⟨rfl, rfl, rfl, by decide +kernel, rfl, by decide +kernel, by decide +kernel⟩
theorem ok_spgood {f : Addr} {fd : FuncData} (F : Fun K "_law_spot_good" "_law_spot_good" s_spgood f fd) (Tx : Txt mg) (G_pile : Callee P w K mg base T "_law_pile_good" 1 ["_law_thing"] F_pgood) (G_state : Callee P w K mg base T "_law_state_good" 1 ["_law_thing", "_law_many"] F_state) : FnD P w K mg base T 2 f fd ["_law_thing", "_law_many"] F_spot := by
  refine fn_ok F sc_spgood fun cdv A outer s H E ds r hr hl hF => ?_
  cases hF with
  | mk d many h =>
    obtain ⟨n, h1, h2, h3⟩ := isi_tuple (pl2_one h)
    cases hk : tupB d with
    | false =>
      rw [hk] at h3
      rw [spot_tuple (tuple_tup hk)]
      exact psd_cons (psd_if (k := true) (pwd_or (k := true) (l := false) (ptd_not (k := false) (ptd_val (pd_isi (m := "tuple") Tx.b_isinstance (pd_v 0 rfl) (pd_bty (n := "tuple") Tx.b_tuple (by decide +kernel)) h1 h3 h2))) fun z => nomatch z).pt (fun _ => psd_one (psd_ret pd_bl rfl)) (fun z => nomatch z))
    | true =>
      obtain ⟨l, rfl⟩ := tup_of hk
      refine psd_cons (psd_if (k := !decide (l.length = 2)) (ptd_k (pwd_or (k := false) (ptd_not (k := true) (ptd_val (pd_isi (m := "tuple") Tx.b_isinstance (pd_v 0 rfl) (pd_bty (n := "tuple") Tx.b_tuple (by decide +kernel)) h1 h3 h2))) fun _ => (pwd_or1 (ptd_cmp op_ne (nomark _) (pd_len Tx.b_len (pd_v 0 rfl) rfl) pd_int opd_neI))).pt (by rw [Bool.false_or]; congr 1; exact decide_eq_decide.mpr ⟨fun h => by omega, fun h => by omega⟩)) (fun z => ?_) (fun z => psd_nil ?_))
      · have : tupleD (.tup l) 2 = false := by
          show decide (l.length = 2) = false
          cases q : decide (l.length = 2) with
          | false => rfl
          | true => rw [q] at z; cases z
        rw [spot_tuple this]
        exact psd_one (psd_ret pd_bl rfl)
      have hl4 : l.length = 2 := by
        cases q : decide (l.length = 2) with
        | true => exact of_decide_eq_true q
        | false => rw [q] at z; cases z
      obtain ⟨a, b, rfl⟩ := two_of hl4
      have hp := pl2_tup h
      have ha := hp a (by simp)
      have hb := hp b (by simp)
      exact psd_one (psd_ret (pd_and (pr_calln G_state hr (pad_cons (pd_ix (pd_v 0 rfl) pd_int rfl) (pad_cons (pd_v 1 rfl) pad_nil)) (F_state.mk a many ha)) fun _ => (pd_one (d := .bl _) (pr_calln G_pile hr (pad_cons (pd_ix (pd_v 0 rfl) pd_int rfl) pad_nil) (F_pgood.mk b hb)))) rfl)
theorem sc_spoilt : FnScope ["_law_row", "_law_cell", "_law_many", "_law_at", "_law_more", "_law_long", "_law_part"] ["_law_row", "_law_cell", "_law_many"] (defScope s_spoilt) := ⟨rfl, rfl, rfl, by decide +kernel, rfl, by decide +kernel, by decide +kernel⟩
inductive F_spoilt : List Dt → Res → Prop where
  | mk (l : List Dt) (c m : Int) (h0 : 0 < l.length) (h1 : l.length ≤ 4) (h2 : ∀ d ∈ l, rowOk d) : F_spoilt [.tup l, .int c, .int m] (.val (spoilt l c m))
theorem ok_spoilt {f : Addr} {fd : FuncData} (F : Fun K "_law_spoilt" "_law_spoilt" s_spoilt f fd) (Tx : Txt mg) (G_odds : Callee P w K mg base T "_law_odd_state" 1 ["_law_cell", "_law_many"] F_odds) (G_oddt : Callee P w K mg base T "_law_odd_text" 1 ["_law_cell", "_law_text_here"] F_oddt)
    (G_text : Callee P w K mg base T "_law_text" 2 ["_law_cell", "_law_size"] F_text) : FnD P w K mg base T 3 f fd ["_law_row", "_law_cell", "_law_many"] F_spoilt := by
  refine fn_ok F sc_spoilt fun cdv A outer s H E ds r hr hl hF => ?_
  have nd := sc_spoilt.nd
  have hr1 : Room 1 _ := hr.mono (by decide : 1 ≤ 2)
  cases hF with
  | mk l c m h0 h1 h2 =>
    have hb := mod_bounds (c / 7) (m := (l.length : Int)) (by omega)
    have b8 := mod_bounds (c / 49) (m := 8) (by decide)
    have b3 := mod_bounds c (m := 3) (by decide)
    have b33 := mod_bounds (c / 49) (m := 3) (by decide)
    refine psd_cons (psd_set 3 nd (d := .int (c / 7 % (l.length : Int))) (pd_modI (pd_divI (pd_v 1 rfl) pd_int ⟨by decide, by decide⟩) (pd_len Tx.b_len (pd_v 0 rfl) rfl) (by omega)) ?_)
    refine psd_cons (psd_set 4 nd (d := .int (c / 49)) (pd_divI (pd_v 1 rfl) pd_int ⟨by decide, by decide⟩) ?_)
    refine psd_cons (psd_if (ptd_cmp op_eq (nomark _) (pd_modI (pd_v 1 rfl) pd_int (by decide)) pd_int opd_eqI) (fun hc => ?_) (fun hc => psd_nil ?_))
    · have hc := of_decide_eq_true hc
      refine psd_one (psd_ret (pd_v 0 rfl) ?_)
      show _ = _
      unfold spoilt
      rw [if_pos hc]
    have hc0 := of_decide_eq_false hc
    refine psd_cons (psd_if (ptd_cmp op_eq (nomark _) (pd_modI (pd_v 1 rfl) pd_int (by decide)) pd_int opd_eqI) (fun hc => ?_) (fun hc => psd_nil ?_))
    · have hc := of_decide_eq_true hc
      refine psd_one (psd_ret (pd_ix (d1 := .lst (spoiltL l)) (pr_lst (pad_cons (pr_list Tx.b_list (pd_v 0 rfl) rfl).dat (pad_cons (pd_sliceT (pd_v 0 rfl) pod_none (pod_some (pd_negI pd_int))) (pad_cons (pd_catT (pd_v 0 rfl) (pd_tup (pad_cons pd_int pad_nil)) (sz_le (by show l.length + 1 ≤ _; omega))) (pad_cons pd_non (pad_cons pd_int (pad_cons (pr_dict1 pd_int (pd_v 0 rfl)).dat (pad_cons (pd_strE (l := [97, 98]) rfl) (pad_cons (pd_tup pad_nil) pad_nil))))))))).dat (pd_modI (pd_v 4 rfl) pd_int (by decide)) (dix_l .non b8.1 b8.2)) ?_)
      show _ = _
      unfold spoilt
      rw [if_neg hc0, if_pos hc]
    have hc1 := of_decide_eq_false hc
    have hlt : (c / 7 % (l.length : Int)).toNat < l.length := by omega
    have hd : dIx (.tup l) (c / 7 % (l.length : Int)) = some (l.getD (c / 7 % (l.length : Int)).toNat .non) := by
      show L2.atI l _ = _
      exact atI_getD Dt.non hb.1 hb.2
    have hro : rowOk (l.getD (c / 7 % (l.length : Int)).toNat .non) := by
      rw [List.getD_eq_getElem?_getD, List.getElem?_eq_getElem hlt]
      exact h2 _ (List.getElem_mem hlt)
    have hsp : spoilt l c m = .tup (cutD l none (some (c / 7 % (l.length : Int))) ++ [part (l.getD (c / 7 % (l.length : Int)).toNat .non) c m] ++ cutD l (some (c / 7 % (l.length : Int) + 1)) none) := by
      unfold spoilt
      rw [if_neg hc0, if_neg hc1]
    rw [hsp]
    have k1 := len_cutD l none (some (c / 7 % (l.length : Int)))
    have k2 := len_cutD l (some (c / 7 % (l.length : Int) + 1)) none
    generalize l.getD (c / 7 % (l.length : Int)).toNat .non = d at hd hro ⊢
    refine psd_cut (fun Δ' => ∃ e5, Δ' = [some (.imm (.tup l)), some (.imm (.int c)), some (.imm (.int m)), some (.imm (.int (c / 7 % (l.length : Int)))), some (.imm (.int (c / 49))), e5, some (.imm (part d c m))]) ?_ ?_
    · obtain ⟨n, q1, q2, q3⟩ := isi_str (rowOk_pl hro)
      refine psd_if (ptd_val (pd_isi (m := "str") Tx.b_isinstance (pd_ix (pd_v 0 rfl) (pd_v 3 rfl) hd) (pd_bty (n := "str") Tx.b_str (by decide +kernel)) q1 q3 q2)) (fun hc => ?_) (fun hc => ?_)
      · obtain ⟨t, rfl⟩ := str_of hc
        obtain ⟨ht1, ht2⟩ := hro
        refine psd_cons (psd_set 5 nd (d := .str (t ++ textD (c / 49) (1 + c / 49 % 3).toNat)) (pd_addS (pd_ix (pd_v 0 rfl) (pd_v 3 rfl) hd) (pr_calln G_text hr (pad_cons (pd_v 4 rfl) (pad_cons (pd_addI pd_int (pd_modI (pd_v 4 rfl) pd_int (by decide))) pad_nil)) (F_text.mk _ _ (by omega) (by omega))) (sz_le (by rw [textD_len]; omega))) ?_)
        refine psd_one (psd_set 6 nd (d := part (.str t) c m) (pd_ix (d1 := .lst (partL c t)) (pr_lst (pad_cons (pr_calln G_oddt hr1 (pad_cons (pd_v 4 rfl) (pad_cons (pd_ix (pd_v 0 rfl) (pd_v 3 rfl) hd) pad_nil)) (F_oddt.mk _ t ht1)) (pad_cons (pd_v 5 rfl) (pad_cons (pd_strE (l := []) rfl) pad_nil)))).dat (pd_modI (pd_v 1 rfl) pd_int (by decide)) (dix_l .non b3.1 b3.2)) ?_)
        exact ⟨_, rfl⟩
      · have hp : part d c m = oddS (c / 49) m := by
          cases d with
          | str t => cases hc
          | _ => rfl
        rw [hp]
        refine psd_one (psd_set 6 nd (d := oddS (c / 49) m) (pr_calln G_odds hr1 (pad_cons (pd_v 4 rfl) (pad_cons (pd_v 2 rfl) pad_nil)) (F_odds.mk _ _)) ?_)
        exact ⟨_, rfl⟩
    rintro Δ' ⟨e5, rfl⟩
    exact psd_one (psd_ret (pd_catT (pd_catT (pd_sliceT (pd_v 0 rfl) pod_none (pod_some (pd_v 3 rfl))) (pd_tup (pad_cons (pd_v 6 rfl) pad_nil)) (sz_le (by show _ + 1 ≤ _; omega))) (pd_sliceT (pd_v 0 rfl) (pod_some (pd_addI (pd_v 3 rfl) pd_int)) pod_none) (sz_le (by rw [List.length_append]; show _ + 1 + _ ≤ _; omega))) rfl)
/-! ### signs that are refused -/
theorem sc_refused : FnScope ["_law_rule", "_law_spot", "_law_cell", "_law_many", "_law_state", "_law_pile", "_law_at", "_law_sign_here"] ["_law_rule", "_law_spot", "_law_cell", "_law_many"] (defScope s_refused) := ⟨rfl, rfl, rfl, by decide +kernel, rfl, by decide +kernel, by decide +kernel⟩
def badChars : List Nat := [65, 66, 77, 90, 123, 96, 125, 124, 126, 32, 48, 49, 53, 57, 47, 95, 10, 9, 45, 64, 91, 93]
theorem badChars_no : ∀ c ∈ badChars, sgOk c = false ∧ c < 1000 := by decide
inductive F_refused : List Dt → Res → Prop where
  | mk (s1 s2 c m st : Int) (g p pile : List Nat) (hg : g.length ≤ 10) (hp : p.length ≤ 10) (hq : pile.length ≤ 1000) (kg : OkS g) (kp : OkS p) (kq : OkS pile) : F_refused [.tup [.int s1, .str g, .int s2, .str p], .tup [.int st, .str pile], .int c, .int m] (.val (.bl true))
theorem spot_bad {st m : Int} {a b : List Nat} {x : Nat} (h : sgOk x = false) : spotD (.tup [.int st, .str (a ++ [x] ++ b)]) m = false := by
  show (stateD (.int st) m && (a ++ [x] ++ b).all sgOk) = false
  rw [List.all_append, List.all_append]
  simp [h]
theorem rule_bad {s1 s2 m : Int} {p : List Nat} {x : Nat} (h : sgOk x = false) : ruleD (.tup [.int s1, .str [x], .int s2, .str p]) m = false := by
  show ((stateD (.int s1) m && (sgOk x && stateD (.int s2) m)) && (p.all sgOk && decide (p.length ≤ 2))) = false
  simp [h]
theorem rule_bad2 {s1 s2 m : Int} {g a : List Nat} {x : Nat} (h : sgOk x = false) : ruleD (.tup [.int s1, .str g, .int s2, .str (a ++ [x])]) m = false := by
  show ((stateD (.int s1) m && (signD (.str g) && stateD (.int s2) m)) && ((a ++ [x]).all sgOk && decide ((a ++ [x]).length ≤ 2))) = false
  rw [List.all_append]
  simp [h]
theorem ok_refused {f : Addr} {fd : FuncData} (F : Fun K "_law_signs_refused" "_law_signs_refused" s_refused f fd) (Tx : Txt mg) (G_is_rule : Callee P w K mg base T "is_rule" 4 ["thing", "many"] F_isrule) (G_is_spot : Callee P w K mg base T "is_spot" 4 ["thing", "many"] F_spot) : FnD P w K mg base T 5 f fd ["_law_rule", "_law_spot", "_law_cell", "_law_many"] F_refused := by
  refine fn_ok F sc_refused fun cdv A outer s H E ds r hr hl hF => ?_
  have nd := sc_refused.nd
  cases hF with
  | mk s1 s2 c m st g p pile hg hp hq kg kp kq =>
    have hsz : pile.length ≤ sizeLine := sz_le (by omega)
    have k1 := len_cutD pile none (some (c % ((pile.length : Int) + 1)))
    have k2 := len_cutD pile (some (c % ((pile.length : Int) + 1))) none
    have k3 := len_cutD p none (some 1)
    refine psd_cons (psd_asg (pd_v 1 rfl) (gd_tup rfl (gds_cons (gd_name 4 nd) (gds_cons (gd_name 5 nd) gds_nil))) ?_)
    refine psd_cons (psd_set 6 nd (d := .int (c % ((pile.length : Int) + 1))) (pd_modI (pd_v 2 rfl) (pd_addI (pd_len Tx.b_len (pd_v 5 rfl) rfl hsz) pd_int) (by omega)) ?_)
    refine psd_cons (psd_for (passes_of rfl) rfl (pid_str (z := badChars) (pd_strE (by decide +kernel))) (fun i Δ' => ∃ e7, Δ' = [some (.imm (.tup [.int s1, .str g, .int s2, .str p])), some (.imm (.tup [.int st, .str pile])), some (.imm (.int c)), some (.imm (.int m)), some (.imm (.int st)), some (.imm (.str pile)), some (.imm (.int (c % ((pile.length : Int) + 1)))), e7]) ⟨_, rfl⟩ (fun i d Δ' hd iv => ?_) (fun Δ' iv => ?_))
    · obtain ⟨e7, rfl⟩ := iv
      obtain ⟨x, hx, rfl⟩ := map_get hd
      obtain ⟨hbad, hx1⟩ := badChars_no x (List.mem_of_getElem? hx)
      have kx : OkS [x] := fun y hy => by rw [List.mem_singleton.mp hy]; exact hx1
      refine ⟨_, _, gd_name 7 nd, ?_⟩
      have c1 := F_spot.mk (.tup [.int st, .str (cutD pile none (some (c % ((pile.length : Int) + 1))) ++ [x] ++ cutD pile (some (c % ((pile.length : Int) + 1))) none)]) m (pl2_of_tup fun d hd => by
        rcases List.mem_cons.mp hd with z | hd
        · rw [z]; rfl
        · rw [List.mem_singleton.mp hd]
          refine pl1_str (by simp; omega) (ok_app (ok_app (okS_cut kq) kx) (okS_cut kq)))
      rw [spot_bad hbad] at c1
      have c2 := F_isrule.mk (.tup [.int s1, .str [x], .int s2, .str p]) m (pl2_of_tup fun d hd => by
        simp only [List.mem_cons, List.not_mem_nil, or_false] at hd
        rcases hd with z | z | z | z <;> subst z <;> first | rfl | exact pl1_str (by simp) kx | exact pl1_str (by omega) kp)
      rw [rule_bad hbad] at c2
      have c3 := F_isrule.mk (.tup [.int s1, .str g, .int s2, .str (cutD p none (some 1) ++ [x])]) m (pl2_of_tup fun d hd => by
        simp only [List.mem_cons, List.not_mem_nil, or_false] at hd
        rcases hd with z | z | z | z <;> subst z <;> first | rfl | exact pl1_str (by omega) kg | exact pl1_str (by simp; omega) (ok_app (okS_cut kp) kx))
      rw [rule_bad2 hbad] at c3
      refine psd_cons (psd_if (k := false) (ptd_cmp op_isnot_bl (nomark _) (pr_calln G_is_spot hr (pad_cons (pd_tup (pad_cons (pd_v 4 rfl) (pad_cons (pd_addS (pd_addS (pd_sliceS (pd_v 5 rfl) pod_none (pod_some (pd_v 6 rfl)) hsz) (pd_v 7 rfl) (sz_le (by simp; omega))) (pd_sliceS (pd_v 5 rfl) (pod_some (pd_v 6 rfl)) pod_none hsz) (sz_le (by simp; omega))) pad_nil))) (pad_cons (pd_v 3 rfl) pad_nil)) c1) pd_bl opd_isnotB) (fun z => nomatch z) (fun _ => psd_nil ?_))
      refine psd_cons (psd_if (k := false) (ptd_cmp op_isnot_bl (nomark _) (pr_calln G_is_rule hr (pad_cons (pd_tup (pad_cons (pd_ix (pd_v 0 rfl) pd_int rfl) (pad_cons (pd_v 7 rfl) (pad_cons (pd_ix (pd_v 0 rfl) pd_int rfl) (pad_cons (pd_ix (pd_v 0 rfl) pd_int rfl) pad_nil))))) (pad_cons (pd_v 3 rfl) pad_nil)) c2) pd_bl opd_isnotB) (fun z => nomatch z) (fun _ => psd_nil ?_))
      refine psd_one (psd_if (k := false) (ptd_cmp op_isnot_bl (nomark _) (pr_calln G_is_rule hr (pad_cons (pd_tup (pad_cons (pd_ix (pd_v 0 rfl) pd_int rfl) (pad_cons (pd_ix (pd_v 0 rfl) pd_int rfl) (pad_cons (pd_ix (pd_v 0 rfl) pd_int rfl) (pad_cons (pd_addS (pd_sliceS (pd_ix (pd_v 0 rfl) pd_int rfl) pod_none (pod_some pd_int) (sz_le (by omega))) (pd_v 7 rfl) (sz_le (by simp; omega))) pad_nil))))) (pad_cons (pd_v 3 rfl) pad_nil)) c3) pd_bl opd_isnotB) (fun z => nomatch z) (fun _ => psd_nil ?_))
      exact ⟨_, rfl⟩
    · obtain ⟨e7, rfl⟩ := iv
      exact psd_one (psd_ret pd_bl rfl)
theorem sc_same : FnScope ["_law_found", "_law_due"] ["_law_found", "_law_due"] (defScope s_same) := ⟨rfl, rfl, rfl, by decide +kernel, rfl, by decide +kernel, by decide +kernel⟩
inductive F_same : List Dt → Res → Prop where
  | mk (b : Bool) : F_same [.bl b, .bl b] (.val (.bl true))
theorem ok_same {f : Addr} {fd : FuncData} (F : Fun K "_law_same" "_law_same" s_same f fd) (Tx : Txt mg) : FnD P w K mg base T 1 f fd ["_law_found", "_law_due"] F_same := by
  refine fn_ok F sc_same fun cdv A outer s H E ds r hr hl hF => ?_
  cases hF with
  | mk b =>
    refine psd_one (psd_ret (pd_and (k := true) (pd_isi (m := "bool") Tx.b_isinstance (pd_v 0 rfl) (pd_bty (n := "bool") Tx.b_bool (by decide +kernel)) rfl (by decide +kernel) rfl) fun _ => (pd_one (d := .bl _) (pd_cmp op_eq (nomark _) (pd_v 0 rfl) (pd_v 1 rfl) opd_eqB))) ?_)
    show Dt.bl (true && (b == b)) = _
    simp
/-! ### the law -/
theorem sc_law : FnScope ["_law_script", "_law_many", "_law_states", "_law_push", "_law_rule", "_law_size", "_law_spot", "_law_thing"] ["_law_script"] (defScope s_law) := ⟨rfl, rfl, rfl, by decide +kernel, rfl, by decide +kernel, by decide +kernel⟩
theorem ok_law {f : Addr} {fd : FuncData} (F : Fun K "law" "law" s_law f fd)
    (G_cell : Callee P w K mg base T "_law_cell_at" 1 ["_law_script", "_law_k"] F_cell)
    (G_sign : Callee P w K mg base T "_law_sign" 1 ["_law_cell"] F_lsign)
    (G_text : Callee P w K mg base T "_law_text" 2 ["_law_cell", "_law_size"] F_text)
    (G_rgood : Callee P w K mg base T "_law_rule_good" 2 ["_law_thing", "_law_many"] F_isrule)
    (G_spgood : Callee P w K mg base T "_law_spot_good" 2 ["_law_thing", "_law_many"] F_spot)
    (G_spoilt : Callee P w K mg base T "_law_spoilt" 3 ["_law_row", "_law_cell", "_law_many"] F_spoilt)
    (G_refused : Callee P w K mg base T "_law_signs_refused" 5 ["_law_rule", "_law_spot", "_law_cell", "_law_many"] F_refused)
    (G_same : Callee P w K mg base T "_law_same" 1 ["_law_found", "_law_due"] F_same)
    (G_is_rule : Callee P w K mg base T "is_rule" 4 ["thing", "many"] F_isrule)
    (G_is_spot : Callee P w K mg base T "is_spot" 4 ["thing", "many"] F_spot) : FnD P w K mg base T 6 f fd ["_law_script"] LawF := by
  refine fn_ok F sc_law fun cdv A outer s H E ds r hr hl hF => ?_
  have nd := sc_law.nd
  have hr1 : Room 1 _ := hr.mono (by decide : 1 ≤ 5)
  have hr2 : Room 2 _ := hr.mono (by decide : 2 ≤ 5)
  have hr3 : Room 3 _ := hr.mono (by decide : 3 ≤ 5)
  have hr4 : Room 4 _ := hr.mono (by decide : 4 ≤ 5)
  cases hF with
  | mk ns hns =>
    obtain ⟨many, hmany⟩ : ∃ m : Int, m = 1 + cell ns 0 % 5 := ⟨_, rfl⟩
    have hm1 : 0 < many := by have := mod_bounds (cell ns 0) (m := 5) (by decide); omega
    refine psd_cons (psd_set 1 nd (d := .int many) (by rw [hmany]; exact pd_addI pd_int (pd_modI (pr_calln G_cell hr1 (pad_cons (pd_v 0 rfl) (pad_cons pd_int pad_nil)) (F_cell.mk ns 0)) pd_int (by decide))) ?_)
    refine psd_cons (psd_set 2 nd (d := .lst [.int (cell ns 1 % many), .int (cell ns 1 / 5 % many)]) (pr_lst (pad_cons (pd_modI (pr_calln G_cell hr1 (pad_cons (pd_v 0 rfl) (pad_cons pd_int pad_nil)) (F_cell.mk ns 1)) (pd_v 1 rfl) hm1) (pad_cons (pd_modI (pd_divI (pr_calln G_cell hr1 (pad_cons (pd_v 0 rfl) (pad_cons pd_int pad_nil)) (F_cell.mk ns 1)) pd_int ⟨by decide, by decide⟩) (pd_v 1 rfl) hm1) pad_nil))).dat ?_)
    have b3 := mod_bounds (cell ns 3) (m := 3) (by decide)
    obtain ⟨push, hpush⟩ : ∃ l, l = textD (cell ns 3) (cell ns 3 % 3).toNat := ⟨_, rfl⟩
    have pl : push.length ≤ 2 := by rw [hpush, textD_len]; omega
    have po : OkS push := by rw [hpush]; exact okS_textD _ _
    refine psd_cons (psd_set 3 nd (d := .str push) (by rw [hpush]; exact pr_calln G_text hr2 (pad_cons (pr_calln G_cell hr1 (pad_cons (pd_v 0 rfl) (pad_cons pd_int pad_nil)) (F_cell.mk ns 3)) (pad_cons (pd_modI (pr_calln G_cell hr1 (pad_cons (pd_v 0 rfl) (pad_cons pd_int pad_nil)) (F_cell.mk ns 3)) pd_int (by decide)) pad_nil)) (F_text.mk _ _ b3.1 (by omega))) ?_)
    refine psd_cons (psd_set 4 nd (d := .tup [.int (cell ns 1 % many), .str [sgn (cell ns 2)], .int (cell ns 1 / 5 % many), .str push]) (pd_tup (pad_cons (pd_ix (pd_v 2 rfl) pd_int rfl) (pad_cons (pr_calln G_sign hr1 (pad_cons (pr_calln G_cell hr1 (pad_cons (pd_v 0 rfl) (pad_cons pd_int pad_nil)) (F_cell.mk ns 2)) pad_nil) (F_lsign.mk _)) (pad_cons (pd_ix (pd_v 2 rfl) pd_int rfl) (pad_cons (pd_v 3 rfl) pad_nil))))) ?_)
    have b2 := mod_bounds (cell ns 4) (m := 2) (by decide)
    have b8 := mod_bounds (cell ns 4) (m := 8) (by decide)
    have b70 := mod_bounds (cell ns 4 / 8) (m := 70) (by decide)
    obtain ⟨sz, hsz⟩ : ∃ z : Int, z = ([cell ns 4 % 8, cell ns 4 / 8 % 70] : List Int).getD (cell ns 4 % 2).toNat 0 := ⟨_, rfl⟩
    have hsb : 0 ≤ sz ∧ sz ≤ 70 := by
      rw [hsz]
      refine getD_all (P := fun x => 0 ≤ x ∧ x ≤ 70) (by decide) (fun x hx => ?_) _
      simp only [List.mem_cons, List.not_mem_nil, or_false] at hx
      rcases hx with z | z <;> rw [z] <;> constructor <;> omega
    refine psd_cons (psd_set 5 nd (d := .int sz) (by rw [hsz]; exact pd_ix (d1 := .lst (([cell ns 4 % 8, cell ns 4 / 8 % 70] : List Int).map .int)) (pr_lst (pad_cons (pd_modI (pr_calln G_cell hr1 (pad_cons (pd_v 0 rfl) (pad_cons pd_int pad_nil)) (F_cell.mk ns 4)) pd_int (by decide)) (pad_cons (pd_modI (pd_divI (pr_calln G_cell hr1 (pad_cons (pd_v 0 rfl) (pad_cons pd_int pad_nil)) (F_cell.mk ns 4)) pd_int ⟨by decide, by decide⟩) pd_int (by decide)) pad_nil))).dat (pd_modI (pr_calln G_cell hr1 (pad_cons (pd_v 0 rfl) (pad_cons pd_int pad_nil)) (F_cell.mk ns 4)) pd_int (by decide)) (dix_ints b2.1 b2.2)) ?_)
    obtain ⟨pile, hpile⟩ : ∃ l, l = textD (cell ns 5) sz.toNat := ⟨_, rfl⟩
    have ql : pile.length ≤ 70 := by rw [hpile, textD_len]; omega
    have qo : OkS pile := by rw [hpile]; exact okS_textD _ _
    refine psd_cons (psd_set 6 nd (d := .tup [.int (cell ns 1 / 5 % many), .str pile]) (pd_tup (pad_cons (pd_ix (pd_v 2 rfl) pd_int rfl) (pad_cons (by rw [hpile]; exact pr_calln G_text hr2 (pad_cons (pr_calln G_cell hr1 (pad_cons (pd_v 0 rfl) (pad_cons pd_int pad_nil)) (F_cell.mk ns 5)) (pad_cons (pd_v 5 rfl) pad_nil)) (F_text.mk _ _ hsb.1 (by omega))) pad_nil))) ?_)
    generalize hs1 : cell ns 1 % many = s1
    generalize hs2 : cell ns 1 / 5 % many = s2
    have hg : OkS [sgn (cell ns 2)] := fun x hx => by rw [List.mem_singleton.mp hx]; have := sgn_lt (cell ns 2); omega
    generalize hgg : [sgn (cell ns 2)] = g at hg ⊢
    have hg1 : g.length = 1 := by rw [← hgg]; rfl
    have rowR : ∀ d ∈ [Dt.int s1, .str g, .int s2, .str push], rowOk d := fun d hd => by
      simp only [List.mem_cons, List.not_mem_nil, or_false] at hd
      rcases hd with z | z | z | z <;> subst z
      · trivial
      · exact ⟨by omega, hg⟩
      · trivial
      · exact ⟨by omega, po⟩
    have rowS : ∀ d ∈ [Dt.int s2, .str pile], rowOk d := fun d hd => by
      simp only [List.mem_cons, List.not_mem_nil, or_false] at hd
      rcases hd with z | z <;> subst z
      · trivial
      · exact ⟨by omega, qo⟩
    refine psd_cons (psd_for (passes_of rfl) rfl (pid_list (ds := [.tup [.int s1, .str g, .int s2, .str push], spoilt [.int s1, .str g, .int s2, .str push] (cell ns 6) many]) (pr_lst (pad_cons (pd_v 4 rfl) (pad_cons (pr_calln G_spoilt hr3 (pad_cons (pd_v 4 rfl) (pad_cons (pr_calln G_cell hr1 (pad_cons (pd_v 0 rfl) (pad_cons pd_int pad_nil)) (F_cell.mk ns 6)) (pad_cons (pd_v 1 rfl) pad_nil))) (F_spoilt.mk _ _ _ (by simp) (by simp) rowR)) pad_nil))).dat)
      (fun i Δ' => ∃ e7, Δ' = [some (.imm (.scr ns)), some (.imm (.int many)), some (.imm (.lst [.int s1, .int s2])), some (.imm (.str push)), some (.imm (.tup [.int s1, .str g, .int s2, .str push])), some (.imm (.int sz)), some (.imm (.tup [.int s2, .str pile])), e7]) ⟨none, rfl⟩ (fun i d Δ' hd iv => ?_) (fun Δ' iv => ?_))
    · obtain ⟨e7, rfl⟩ := iv
      have hp : pl2 d = true := by
        have hd := List.mem_of_getElem? hd
        rcases List.mem_cons.mp hd with z | hd
        · rw [z]; exact pl2_of_tup fun x hx => rowOk_pl (rowR x hx)
        · rw [List.mem_singleton.mp hd]; exact pl2_spoilt (by simp) rowR
      refine ⟨_, _, gd_name 7 nd, ?_⟩
      refine psd_cons (psd_if (k := false) (ptd_not (k := true) (ptd_val (pr_calln G_same hr1 (pad_cons (pr_calln G_is_rule hr4 (pad_cons (pd_v 7 rfl) (pad_cons (pd_v 1 rfl) pad_nil)) (F_isrule.mk d many hp)) (pad_cons (pr_calln G_rgood hr2 (pad_cons (pd_v 7 rfl) (pad_cons (pd_v 1 rfl) pad_nil)) (F_isrule.mk d many hp)) pad_nil)) (F_same.mk _)))) (fun z => nomatch z) (fun _ => psd_nil ?_))
      refine psd_one (psd_if (k := false) (ptd_not (k := true) (ptd_val (pr_calln G_same hr1 (pad_cons (pr_calln G_is_spot hr4 (pad_cons (pd_v 7 rfl) (pad_cons (pd_v 1 rfl) pad_nil)) (F_spot.mk d many hp)) (pad_cons (pr_calln G_spgood hr2 (pad_cons (pd_v 7 rfl) (pad_cons (pd_v 1 rfl) pad_nil)) (F_spot.mk d many hp)) pad_nil)) (F_same.mk _)))) (fun z => nomatch z) (fun _ => psd_nil ⟨_, rfl⟩))
    obtain ⟨e7, rfl⟩ := iv
    refine psd_cons (psd_if (k := false) (ptd_not (k := true) (ptd_val (pr_calln G_refused hr (pad_cons (pd_v 4 rfl) (pad_cons (pd_v 6 rfl) (pad_cons (pr_calln G_cell hr1 (pad_cons (pd_v 0 rfl) (pad_cons pd_int pad_nil)) (F_cell.mk ns 7)) (pad_cons (pd_v 1 rfl) pad_nil)))) (F_refused.mk s1 s2 _ many s2 g push pile (by omega) (by omega) (by omega) hg po qo)))) (fun z => nomatch z) (fun _ => psd_nil ?_))
    refine psd_cons (psd_for (passes_of rfl) rfl (pid_list (ds := [.tup [.int s2, .str pile], spoilt [.int s2, .str pile] (cell ns 7) many]) (pr_lst (pad_cons (pd_v 6 rfl) (pad_cons (pr_calln G_spoilt hr3 (pad_cons (pd_v 6 rfl) (pad_cons (pr_calln G_cell hr1 (pad_cons (pd_v 0 rfl) (pad_cons pd_int pad_nil)) (F_cell.mk ns 7)) (pad_cons (pd_v 1 rfl) pad_nil))) (F_spoilt.mk _ _ _ (by simp) (by simp) rowS)) pad_nil))).dat)
      (fun i Δ' => ∃ e7, Δ' = [some (.imm (.scr ns)), some (.imm (.int many)), some (.imm (.lst [.int s1, .int s2])), some (.imm (.str push)), some (.imm (.tup [.int s1, .str g, .int s2, .str push])), some (.imm (.int sz)), some (.imm (.tup [.int s2, .str pile])), e7]) ⟨_, rfl⟩ (fun i d Δ' hd iv => ?_) (fun Δ' iv => ?_))
    · obtain ⟨e7, rfl⟩ := iv
      have hp : pl2 d = true := by
        have hd := List.mem_of_getElem? hd
        rcases List.mem_cons.mp hd with z | hd
        · rw [z]; exact pl2_of_tup fun x hx => rowOk_pl (rowS x hx)
        · rw [List.mem_singleton.mp hd]; exact pl2_spoilt (by simp) rowS
      refine ⟨_, _, gd_name 7 nd, ?_⟩
      refine psd_cons (psd_if (k := false) (ptd_not (k := true) (ptd_val (pr_calln G_same hr1 (pad_cons (pr_calln G_is_spot hr4 (pad_cons (pd_v 7 rfl) (pad_cons (pd_v 1 rfl) pad_nil)) (F_spot.mk d many hp)) (pad_cons (pr_calln G_spgood hr2 (pad_cons (pd_v 7 rfl) (pad_cons (pd_v 1 rfl) pad_nil)) (F_spot.mk d many hp)) pad_nil)) (F_same.mk _)))) (fun z => nomatch z) (fun _ => psd_nil ?_))
      refine psd_one (psd_if (k := false) (ptd_not (k := true) (ptd_val (pr_calln G_same hr1 (pad_cons (pr_calln G_is_rule hr4 (pad_cons (pd_v 7 rfl) (pad_cons (pd_v 1 rfl) pad_nil)) (F_isrule.mk d many hp)) (pad_cons (pr_calln G_rgood hr2 (pad_cons (pd_v 7 rfl) (pad_cons (pd_v 1 rfl) pad_nil)) (F_isrule.mk d many hp)) pad_nil)) (F_same.mk _)))) (fun z => nomatch z) (fun _ => psd_nil ⟨_, rfl⟩))
    obtain ⟨e7, rfl⟩ := iv
    exact psd_one (psd_ret pd_bl rfl)
end
theorem all_mk {l : PySem.W.OpenLaw} {w : World} {K : PySem.W.Frag} {h : Heap} {mg : Str → Option Value} {fa f1 f2 f3 f4 f5 f6 f7 f8 f9 f10 f11 f12 f13 f14 f15 f16 f17 f18 f19 f20 : Addr} (X : K.In h) (G : h.Ns mainGlobals mg) (hfa : mg "law" = some (.ref fa)) (tb : ∀ y ∈ (["is_pile"] : List Str), TabAt h mg y)
    {od1 od2 od3 od4 od5 od6 od7 od8 od9 od10 od11 od12 od13 od14 od15 od16 od17 od18 od19 od20 an1 an2 an3 an4 an5 an6 an7 an8 an9 an10 an11 an12 an13 an14 an15 an16 an17 an18 an19 an20 : Option Addr} {sl1 sl2 sl3 sl4 sl5 sl6 sl7 sl8 sl9 sl10 sl11 sl12 sl13 sl14 sl15 sl16 sl17 sl18 sl19 sl20 : Array (Option Value)} {oc1 oc2 oc3 oc4 oc5 oc6 oc7 oc8 oc9 oc10 oc11 oc12 oc13 oc14 oc15 oc16 oc17 oc18 oc19 oc20 kV1 kV2 kV3 kV4 kV5 kV6 kV7 kV8 kV9 kV10 kV11 kV12 kV13 kV14 kV15 kV16 kV17 kV18 kV19 kV20 dc1 dc2 dc3 dc4 dc5 dc6 dc7 dc8 dc9 dc10 dc11 dc12 dc13 dc14 dc15 dc16 dc17 dc18 dc19 dc20 pm1 pm2 pm3 pm4 pm5 pm6 pm7 pm8 pm9 pm10 pm11 pm12 pm13 pm14 pm15 pm16 pm17 pm18 pm19 pm20 cd1 cd2 cd3 cd4 cd5 cd6 cd7 cd8 cd9 cd10 cd11 cd12 cd13 cd14 cd15 cd16 cd17 cd18 cd19 cd20 ct1 ct2 ct3 ct4 ct5 ct6 ct7 ct8 ct9 ct10 ct11 ct12 ct13 ct14 ct15 ct16 ct17 ct18 ct19 ct20 : Value}
    (a1 : PySem.W.nsIn K mainGlobals "is_number" = some (some (.ref f1))) (l1 : K.lookup f1 = some ⟨oc1, od1, .func (PySem.W.fnOf "is_number" "is_number" (defArgs (top 1)) (defBody (top 1)) (defScope (top 1)) .none kV1 dc1 pm1 an1 cd1 ct1), sl1⟩) (c1 : PySem.W.codeIn K cd1 "is_number" = true) (k1 : PySem.W.keepIn K (.ref f1) = true)
    (a2 : PySem.W.nsIn K mainGlobals "is_state" = some (some (.ref f2))) (l2 : K.lookup f2 = some ⟨oc2, od2, .func (PySem.W.fnOf "is_state" "is_state" (defArgs (top 2)) (defBody (top 2)) (defScope (top 2)) .none kV2 dc2 pm2 an2 cd2 ct2), sl2⟩) (c2 : PySem.W.codeIn K cd2 "is_state" = true) (k2 : PySem.W.keepIn K (.ref f2) = true)
    (a3 : PySem.W.nsIn K mainGlobals "is_sign" = some (some (.ref f3))) (l3 : K.lookup f3 = some ⟨oc3, od3, .func (PySem.W.fnOf "is_sign" "is_sign" (defArgs (top 3)) (defBody (top 3)) (defScope (top 3)) .none kV3 dc3 pm3 an3 cd3 ct3), sl3⟩) (c3 : PySem.W.codeIn K cd3 "is_sign" = true) (k3 : PySem.W.keepIn K (.ref f3) = true)
    (a4 : PySem.W.nsIn K mainGlobals "is_pile" = some (some (.ref f4))) (l4 : K.lookup f4 = some ⟨oc4, od4, .func (PySem.W.fnOf "is_pile" "is_pile" (defArgs (top 4)) (defBody (top 4)) (defScope (top 4)) .none kV4 dc4 pm4 an4 cd4 ct4), sl4⟩) (c4 : PySem.W.codeIn K cd4 "is_pile" = true) (k4 : PySem.W.keepIn K (.ref f4) = true)
    (a5 : PySem.W.nsIn K mainGlobals "is_tuple" = some (some (.ref f5))) (l5 : K.lookup f5 = some ⟨oc5, od5, .func (PySem.W.fnOf "is_tuple" "is_tuple" (defArgs (top 5)) (defBody (top 5)) (defScope (top 5)) .none kV5 dc5 pm5 an5 cd5 ct5), sl5⟩) (c5 : PySem.W.codeIn K cd5 "is_tuple" = true) (k5 : PySem.W.keepIn K (.ref f5) = true)
    (a6 : PySem.W.nsIn K mainGlobals "is_rule" = some (some (.ref f6))) (l6 : K.lookup f6 = some ⟨oc6, od6, .func (PySem.W.fnOf "is_rule" "is_rule" (defArgs (top 6)) (defBody (top 6)) (defScope (top 6)) .none kV6 dc6 pm6 an6 cd6 ct6), sl6⟩) (c6 : PySem.W.codeIn K cd6 "is_rule" = true) (k6 : PySem.W.keepIn K (.ref f6) = true)
    (a7 : PySem.W.nsIn K mainGlobals "is_spot" = some (some (.ref f7))) (l7 : K.lookup f7 = some ⟨oc7, od7, .func (PySem.W.fnOf "is_spot" "is_spot" (defArgs (top 7)) (defBody (top 7)) (defScope (top 7)) .none kV7 dc7 pm7 an7 cd7 ct7), sl7⟩) (c7 : PySem.W.codeIn K cd7 "is_spot" = true) (k7 : PySem.W.keepIn K (.ref f7) = true)
    (a8 : PySem.W.nsIn K mainGlobals "_law_cell_at" = some (some (.ref f8))) (l8 : K.lookup f8 = some ⟨oc8, od8, .func (PySem.W.fnOf "_law_cell_at" "_law_cell_at" (defArgs (top 9)) (defBody (top 9)) (defScope (top 9)) .none kV8 dc8 pm8 an8 cd8 ct8), sl8⟩) (c8 : PySem.W.codeIn K cd8 "_law_cell_at" = true) (k8 : PySem.W.keepIn K (.ref f8) = true)
    (a9 : PySem.W.nsIn K mainGlobals "_law_sign" = some (some (.ref f9))) (l9 : K.lookup f9 = some ⟨oc9, od9, .func (PySem.W.fnOf "_law_sign" "_law_sign" (defArgs (top 10)) (defBody (top 10)) (defScope (top 10)) .none kV9 dc9 pm9 an9 cd9 ct9), sl9⟩) (c9 : PySem.W.codeIn K cd9 "_law_sign" = true) (k9 : PySem.W.keepIn K (.ref f9) = true)
    (a10 : PySem.W.nsIn K mainGlobals "_law_text" = some (some (.ref f10))) (l10 : K.lookup f10 = some ⟨oc10, od10, .func (PySem.W.fnOf "_law_text" "_law_text" (defArgs (top 11)) (defBody (top 11)) (defScope (top 11)) .none kV10 dc10 pm10 an10 cd10 ct10), sl10⟩) (c10 : PySem.W.codeIn K cd10 "_law_text" = true) (k10 : PySem.W.keepIn K (.ref f10) = true)
    (a11 : PySem.W.nsIn K mainGlobals "_law_odd_state" = some (some (.ref f11))) (l11 : K.lookup f11 = some ⟨oc11, od11, .func (PySem.W.fnOf "_law_odd_state" "_law_odd_state" (defArgs (top 12)) (defBody (top 12)) (defScope (top 12)) .none kV11 dc11 pm11 an11 cd11 ct11), sl11⟩) (c11 : PySem.W.codeIn K cd11 "_law_odd_state" = true) (k11 : PySem.W.keepIn K (.ref f11) = true)
    (a12 : PySem.W.nsIn K mainGlobals "_law_odd_text" = some (some (.ref f12))) (l12 : K.lookup f12 = some ⟨oc12, od12, .func (PySem.W.fnOf "_law_odd_text" "_law_odd_text" (defArgs (top 13)) (defBody (top 13)) (defScope (top 13)) .none kV12 dc12 pm12 an12 cd12 ct12), sl12⟩) (c12 : PySem.W.codeIn K cd12 "_law_odd_text" = true) (k12 : PySem.W.keepIn K (.ref f12) = true)
    (a13 : PySem.W.nsIn K mainGlobals "_law_state_good" = some (some (.ref f13))) (l13 : K.lookup f13 = some ⟨oc13, od13, .func (PySem.W.fnOf "_law_state_good" "_law_state_good" (defArgs (top 14)) (defBody (top 14)) (defScope (top 14)) .none kV13 dc13 pm13 an13 cd13 ct13), sl13⟩) (c13 : PySem.W.codeIn K cd13 "_law_state_good" = true) (k13 : PySem.W.keepIn K (.ref f13) = true)
    (a14 : PySem.W.nsIn K mainGlobals "_law_pile_good" = some (some (.ref f14))) (l14 : K.lookup f14 = some ⟨oc14, od14, .func (PySem.W.fnOf "_law_pile_good" "_law_pile_good" (defArgs (top 15)) (defBody (top 15)) (defScope (top 15)) .none kV14 dc14 pm14 an14 cd14 ct14), sl14⟩) (c14 : PySem.W.codeIn K cd14 "_law_pile_good" = true) (k14 : PySem.W.keepIn K (.ref f14) = true)
    (a15 : PySem.W.nsIn K mainGlobals "_law_rule_good" = some (some (.ref f15))) (l15 : K.lookup f15 = some ⟨oc15, od15, .func (PySem.W.fnOf "_law_rule_good" "_law_rule_good" (defArgs (top 16)) (defBody (top 16)) (defScope (top 16)) .none kV15 dc15 pm15 an15 cd15 ct15), sl15⟩) (c15 : PySem.W.codeIn K cd15 "_law_rule_good" = true) (k15 : PySem.W.keepIn K (.ref f15) = true)
    (a16 : PySem.W.nsIn K mainGlobals "_law_spot_good" = some (some (.ref f16))) (l16 : K.lookup f16 = some ⟨oc16, od16, .func (PySem.W.fnOf "_law_spot_good" "_law_spot_good" (defArgs (top 17)) (defBody (top 17)) (defScope (top 17)) .none kV16 dc16 pm16 an16 cd16 ct16), sl16⟩) (c16 : PySem.W.codeIn K cd16 "_law_spot_good" = true) (k16 : PySem.W.keepIn K (.ref f16) = true)
    (a17 : PySem.W.nsIn K mainGlobals "_law_spoilt" = some (some (.ref f17))) (l17 : K.lookup f17 = some ⟨oc17, od17, .func (PySem.W.fnOf "_law_spoilt" "_law_spoilt" (defArgs (top 18)) (defBody (top 18)) (defScope (top 18)) .none kV17 dc17 pm17 an17 cd17 ct17), sl17⟩) (c17 : PySem.W.codeIn K cd17 "_law_spoilt" = true) (k17 : PySem.W.keepIn K (.ref f17) = true)
    (a18 : PySem.W.nsIn K mainGlobals "_law_signs_refused" = some (some (.ref f18))) (l18 : K.lookup f18 = some ⟨oc18, od18, .func (PySem.W.fnOf "_law_signs_refused" "_law_signs_refused" (defArgs (top 19)) (defBody (top 19)) (defScope (top 19)) .none kV18 dc18 pm18 an18 cd18 ct18), sl18⟩) (c18 : PySem.W.codeIn K cd18 "_law_signs_refused" = true) (k18 : PySem.W.keepIn K (.ref f18) = true)
    (a19 : PySem.W.nsIn K mainGlobals "_law_same" = some (some (.ref f19))) (l19 : K.lookup f19 = some ⟨oc19, od19, .func (PySem.W.fnOf "_law_same" "_law_same" (defArgs (top 20)) (defBody (top 20)) (defScope (top 20)) .none kV19 dc19 pm19 an19 cd19 ct19), sl19⟩) (c19 : PySem.W.codeIn K cd19 "_law_same" = true) (k19 : PySem.W.keepIn K (.ref f19) = true)
    (a20 : PySem.W.nsIn K mainGlobals "law" = some (some (.ref f20))) (l20 : K.lookup f20 = some ⟨oc20, od20, .func (PySem.W.fnOf "law" "law" (defArgs (top 21)) (defBody (top 21)) (defScope (top 21)) .none kV20 dc20 pm20 an20 cd20 ct20), sl20⟩) (c20 : PySem.W.codeIn K cd20 "law" = true) (k20 : PySem.W.keepIn K (.ref f20) = true)
    (z1 : PySem.W.nsIn K mainGlobals "len" = some none)
    (z2 : PySem.W.nsIn K mainGlobals "range" = some none)
    (z3 : PySem.W.nsIn K mainGlobals "isinstance" = some none)
    (z4 : PySem.W.nsIn K mainGlobals "list" = some none)
    (z5 : PySem.W.nsIn K mainGlobals "tuple" = some none)
    (z6 : PySem.W.nsIn K mainGlobals "int" = some none)
    (z7 : PySem.W.nsIn K mainGlobals "bool" = some none)
    (z8 : PySem.W.nsIn K mainGlobals "str" = some none)
    (z9 : PySem.W.nsIn K mainGlobals "type" = some none)
    (z10 : PySem.W.nsIn K mainGlobals "all" = some none)
    (nT : noTab K = true) : LamX.LawAtS l w K (L2.CX l.prog w) 6 63 "_law_script" mg fa h := by
  have e := hfa.symm.trans (PySem.W.mg_of X G a20)
  cases e
  have Tx : Txt mg := ⟨PySem.W.mg_none_of X G z1, PySem.W.mg_none_of X G z2, PySem.W.mg_none_of X G z3, PySem.W.mg_none_of X G z4, PySem.W.mg_none_of X G z5, PySem.W.mg_none_of X G z6, PySem.W.mg_none_of X G z7, PySem.W.mg_none_of X G z8, PySem.W.mg_none_of X G z9, PySem.W.mg_none_of X G z10⟩
  have F1 := fun_mk (st := top 1) l1 c1 k1
  have F2 := fun_mk (st := top 2) l2 c2 k2
  have F3 := fun_mk (st := top 3) l3 c3 k3
  have F4 := fun_mk (st := top 4) l4 c4 k4
  have F5 := fun_mk (st := top 5) l5 c5 k5
  have F6 := fun_mk (st := top 6) l6 c6 k6
  have F7 := fun_mk (st := top 7) l7 c7 k7
  have F8 := fun_mk (st := top 9) l8 c8 k8
  have F9 := fun_mk (st := top 10) l9 c9 k9
  have F10 := fun_mk (st := top 11) l10 c10 k10
  have F11 := fun_mk (st := top 12) l11 c11 k11
  have F12 := fun_mk (st := top 13) l12 c12 k12
  have F13 := fun_mk (st := top 14) l13 c13 k13
  have F14 := fun_mk (st := top 15) l14 c14 k14
  have F15 := fun_mk (st := top 16) l15 c15 k15
  have F16 := fun_mk (st := top 17) l16 c16 k16
  have F17 := fun_mk (st := top 18) l17 c17 k17
  have F18 := fun_mk (st := top 19) l18 c18 k18
  have F19 := fun_mk (st := top 20) l19 c19 k19
  have F20 := fun_mk (st := top 21) l20 c20 k20
  obtain ⟨c_is_pile, P_is_pile, hc_is_pile, hd_is_pile, hP_is_pile⟩ := tab_of X (tb "is_pile" (by simp)) (PySem.W.mg_of X G a4) l4
  refine ⟨PySem.W.fnOf "law" "law" (defArgs (top 21)) (defBody (top 21)) (defScope (top 21)) .none kV20 dc20 pm20 an20 cd20 ct20, [(c_is_pile, P_is_pile)], spLaw K [P_is_pile], ?_, ?_, ?_, fun s v => .of_eq rfl, ?_, ?_⟩
  · exact fun p hp => by
        rw [List.mem_singleton.mp hp]
        exact hP_is_pile
  · exact fun p hp => by
        rw [List.mem_singleton.mp hp]
        exact noTab_none nT X hP_is_pile
  · exact fun p hp => by
        rw [List.mem_singleton.mp hp]
        exact hd_is_pile
  · intro H a ns hl _ hH hS
    refine ⟨fun P hP => ?_, a, ns, rfl, hS, hl, fun _ => rfl⟩
    rw [List.mem_singleton.mp hP]
    exact ⟨#[], hH (c_is_pile, P_is_pile) (by simp), trivial⟩
  intro base _ _ hTB
  have TB_is_pile := tabB_of (hTB (c_is_pile, P_is_pile) (by simp))
  have hT_is_pile : P_is_pile ∈ ([P_is_pile] : List Addr) := by simp
  have b1 := F1.binds (ps := ["thing"]) fun _ _ _ _ _ _ us hl => match us, hl with | [_], _ => rfl
  have G_is_number : Callee l.prog w K mg base [P_is_pile] "is_number" 1 ["thing"] F_num := ⟨f1, _, ok_num F1 Tx, PySem.W.mg_of X G a1, k1, b1⟩
  have b2 := F2.binds (ps := ["thing", "many"]) fun _ _ _ _ _ _ us hl => match us, hl with | [_, _], _ => rfl
  have G_is_state : Callee l.prog w K mg base [P_is_pile] "is_state" 2 ["thing", "many"] F_state := ⟨f2, _, ok_state F2 G_is_number, PySem.W.mg_of X G a2, k2, b2⟩
  have b3 := F3.binds (ps := ["thing"]) fun _ _ _ _ _ _ us hl => match us, hl with | [_], _ => rfl
  have G_is_sign : Callee l.prog w K mg base [P_is_pile] "is_sign" 1 ["thing"] F_sign := ⟨f3, _, ok_sign F3 Tx, PySem.W.mg_of X G a3, k3, b3⟩
  have b4 := F4.binds (ps := ["thing"]) fun _ _ _ _ _ _ us hl => match us, hl with | [_], _ => rfl
  have G_is_pile : Callee l.prog w K mg base [P_is_pile] "is_pile" 3 ["thing"] F_pile := ⟨f4, _, ok_pile F4 Tx hT_is_pile TB_is_pile hc_is_pile G_is_sign, PySem.W.mg_of X G a4, k4, b4⟩
  have b5 := F5.binds (ps := ["thing", "length"]) fun _ _ _ _ _ _ us hl => match us, hl with | [_, _], _ => rfl
  have G_is_tuple : Callee l.prog w K mg base [P_is_pile] "is_tuple" 1 ["thing", "length"] F_tuple := ⟨f5, _, ok_tuple F5 Tx, PySem.W.mg_of X G a5, k5, b5⟩
  have b6 := F6.binds (ps := ["thing", "many"]) fun _ _ _ _ _ _ us hl => match us, hl with | [_, _], _ => rfl
  have G_is_rule : Callee l.prog w K mg base [P_is_pile] "is_rule" 4 ["thing", "many"] F_isrule := ⟨f6, _, ok_isrule F6 Tx G_is_tuple G_is_state G_is_sign G_is_pile, PySem.W.mg_of X G a6, k6, b6⟩
  have b7 := F7.binds (ps := ["thing", "many"]) fun _ _ _ _ _ _ us hl => match us, hl with | [_, _], _ => rfl
  have G_is_spot : Callee l.prog w K mg base [P_is_pile] "is_spot" 4 ["thing", "many"] F_spot := ⟨f7, _, ok_spot F7 G_is_tuple G_is_state G_is_pile, PySem.W.mg_of X G a7, k7, b7⟩
  have b8 := F8.binds (ps := ["_law_script", "_law_k"]) fun _ _ _ _ _ _ us hl => match us, hl with | [_, _], _ => rfl
  have G_L_cell_at : Callee l.prog w K mg base [P_is_pile] "_law_cell_at" 1 ["_law_script", "_law_k"] F_cell := ⟨f8, _, ok_cell F8 Tx, PySem.W.mg_of X G a8, k8, b8⟩
  have b9 := F9.binds (ps := ["_law_cell"]) fun _ _ _ _ _ _ us hl => match us, hl with | [_], _ => rfl
  have G_L_sign : Callee l.prog w K mg base [P_is_pile] "_law_sign" 1 ["_law_cell"] F_lsign := ⟨f9, _, ok_lsign F9, PySem.W.mg_of X G a9, k9, b9⟩
  have b10 := F10.binds (ps := ["_law_cell", "_law_size"]) fun _ _ _ _ _ _ us hl => match us, hl with | [_, _], _ => rfl
  have G_L_text : Callee l.prog w K mg base [P_is_pile] "_law_text" 2 ["_law_cell", "_law_size"] F_text := ⟨f10, _, ok_text F10 Tx G_L_sign, PySem.W.mg_of X G a10, k10, b10⟩
  have b11 := F11.binds (ps := ["_law_cell", "_law_many"]) fun _ _ _ _ _ _ us hl => match us, hl with | [_, _], _ => rfl
  have G_L_odd_state : Callee l.prog w K mg base [P_is_pile] "_law_odd_state" 1 ["_law_cell", "_law_many"] F_odds := ⟨f11, _, ok_odds F11, PySem.W.mg_of X G a11, k11, b11⟩
  have b12 := F12.binds (ps := ["_law_cell", "_law_text_here"]) fun _ _ _ _ _ _ us hl => match us, hl with | [_, _], _ => rfl
  have G_L_odd_text : Callee l.prog w K mg base [P_is_pile] "_law_odd_text" 1 ["_law_cell", "_law_text_here"] F_oddt := ⟨f12, _, ok_oddt F12 Tx, PySem.W.mg_of X G a12, k12, b12⟩
  have b13 := F13.binds (ps := ["_law_thing", "_law_many"]) fun _ _ _ _ _ _ us hl => match us, hl with | [_, _], _ => rfl
  have G_L_state_good : Callee l.prog w K mg base [P_is_pile] "_law_state_good" 1 ["_law_thing", "_law_many"] F_state := ⟨f13, _, ok_sgood F13 Tx, PySem.W.mg_of X G a13, k13, b13⟩
  have b14 := F14.binds (ps := ["_law_thing"]) fun _ _ _ _ _ _ us hl => match us, hl with | [_], _ => rfl
  have G_L_pile_good : Callee l.prog w K mg base [P_is_pile] "_law_pile_good" 1 ["_law_thing"] F_pgood := ⟨f14, _, ok_pgood F14 Tx, PySem.W.mg_of X G a14, k14, b14⟩
  have b15 := F15.binds (ps := ["_law_thing", "_law_many"]) fun _ _ _ _ _ _ us hl => match us, hl with | [_, _], _ => rfl
  have G_L_rule_good : Callee l.prog w K mg base [P_is_pile] "_law_rule_good" 2 ["_law_thing", "_law_many"] F_isrule := ⟨f15, _, ok_rgood F15 Tx G_L_pile_good G_L_state_good, PySem.W.mg_of X G a15, k15, b15⟩
  have b16 := F16.binds (ps := ["_law_thing", "_law_many"]) fun _ _ _ _ _ _ us hl => match us, hl with | [_, _], _ => rfl
  have G_L_spot_good : Callee l.prog w K mg base [P_is_pile] "_law_spot_good" 2 ["_law_thing", "_law_many"] F_spot := ⟨f16, _, ok_spgood F16 Tx G_L_pile_good G_L_state_good, PySem.W.mg_of X G a16, k16, b16⟩
  have b17 := F17.binds (ps := ["_law_row", "_law_cell", "_law_many"]) fun _ _ _ _ _ _ us hl => match us, hl with | [_, _, _], _ => rfl
  have G_L_spoilt : Callee l.prog w K mg base [P_is_pile] "_law_spoilt" 3 ["_law_row", "_law_cell", "_law_many"] F_spoilt := ⟨f17, _, ok_spoilt F17 Tx G_L_odd_state G_L_odd_text G_L_text, PySem.W.mg_of X G a17, k17, b17⟩
  have b18 := F18.binds (ps := ["_law_rule", "_law_spot", "_law_cell", "_law_many"]) fun _ _ _ _ _ _ us hl => match us, hl with | [_, _, _, _], _ => rfl
  have G_L_signs_refused : Callee l.prog w K mg base [P_is_pile] "_law_signs_refused" 5 ["_law_rule", "_law_spot", "_law_cell", "_law_many"] F_refused := ⟨f18, _, ok_refused F18 Tx G_is_rule G_is_spot, PySem.W.mg_of X G a18, k18, b18⟩
  have b19 := F19.binds (ps := ["_law_found", "_law_due"]) fun _ _ _ _ _ _ us hl => match us, hl with | [_, _], _ => rfl
  have G_L_same : Callee l.prog w K mg base [P_is_pile] "_law_same" 1 ["_law_found", "_law_due"] F_same := ⟨f19, _, ok_same F19 Tx, PySem.W.mg_of X G a19, k19, b19⟩
  exact (ok_law F20 G_L_cell_at G_L_sign G_L_text G_L_rule_good G_L_spot_good G_L_spoilt G_L_signs_refused G_L_same G_is_rule G_is_spot).imp sp_of_law
end K01
open PySem PySem.W PyProof.Rows
set_option maxRecDepth 100000 in
set_option maxHeartbeats 0 in
theorem PySem.Challenge.cw_pilerun_k01_rules_and_spots_holds : PySem.Challenge.rw_pilerun_k01_rules_and_spots.Holds := by
  w_on; o_law; k_head; (case hw => w_witness2)
  k_fill
  refine DL.walkT (l := PySem.Challenge.rw_pilerun_k01_rules_and_spots) (n := 63) (k := 6) (x := "_law_script") (CX := fun w => L2.CX (PySem.Challenge.rw_pilerun_k01_rules_and_spots).prog w) ["is_pile"] (by decide +kernel) rfl (by decide) rfl ⟨rfl, by decide, by decide⟩ (fun w h Y => PySem.W.kIn_of Y) ?F (fun _ _ _ _ _ z => by obtain ⟨_, _, _, _, _, _, _, _, _, _, _, _, z⟩ := z; exact z)
  case F =>
    intro w mg fa h Y KX G hmg tb
    refine' K01.all_mk KX G hmg tb ?a1 ?l1 ?c1 ?k1 ?a2 ?l2 ?c2 ?k2 ?a3 ?l3 ?c3 ?k3 ?a4 ?l4 ?c4 ?k4 ?a5 ?l5 ?c5 ?k5 ?a6 ?l6 ?c6 ?k6 ?a7 ?l7 ?c7 ?k7 ?a8 ?l8 ?c8 ?k8 ?a9 ?l9 ?c9 ?k9 ?a10 ?l10 ?c10 ?k10 ?a11 ?l11 ?c11 ?k11 ?a12 ?l12 ?c12 ?k12 ?a13 ?l13 ?c13 ?k13 ?a14 ?l14 ?c14 ?k14 ?a15 ?l15 ?c15 ?k15 ?a16 ?l16 ?c16 ?k16 ?a17 ?l17 ?c17 ?k17 ?a18 ?l18 ?c18 ?k18 ?a19 ?l19 ?c19 ?k19 ?a20 ?l20 ?c20 ?k20 ?z1 ?z2 ?z3 ?z4 ?z5 ?z6 ?z7 ?z8 ?z9 ?z10 ?nT
    (case a1 => k_is); (case l1 => k_is); (case c1 => k_is); (case k1 => k_is)
    (case a2 => k_is); (case l2 => k_is); (case c2 => k_is); (case k2 => k_is)
    (case a3 => k_is); (case l3 => k_is); (case c3 => k_is); (case k3 => k_is)
    (case a4 => k_is); (case l4 => k_is); (case c4 => k_is); (case k4 => k_is)
    (case a5 => k_is); (case l5 => k_is); (case c5 => k_is); (case k5 => k_is)
    (case a6 => k_is); (case l6 => k_is); (case c6 => k_is); (case k6 => k_is)
    (case a7 => k_is); (case l7 => k_is); (case c7 => k_is); (case k7 => k_is)
    (case a8 => k_is); (case l8 => k_is); (case c8 => k_is); (case k8 => k_is)
    (case a9 => k_is); (case l9 => k_is); (case c9 => k_is); (case k9 => k_is)
    (case a10 => k_is); (case l10 => k_is); (case c10 => k_is); (case k10 => k_is)
    (case a11 => k_is); (case l11 => k_is); (case c11 => k_is); (case k11 => k_is)
    (case a12 => k_is); (case l12 => k_is); (case c12 => k_is); (case k12 => k_is)
    (case a13 => k_is); (case l13 => k_is); (case c13 => k_is); (case k13 => k_is)
    (case a14 => k_is); (case l14 => k_is); (case c14 => k_is); (case k14 => k_is)
    (case a15 => k_is); (case l15 => k_is); (case c15 => k_is); (case k15 => k_is)
    (case a16 => k_is); (case l16 => k_is); (case c16 => k_is); (case k16 => k_is)
    (case a17 => k_is); (case l17 => k_is); (case c17 => k_is); (case k17 => k_is)
    (case a18 => k_is); (case l18 => k_is); (case c18 => k_is); (case k18 => k_is)
    (case a19 => k_is); (case l19 => k_is); (case c19 => k_is); (case k19 => k_is)
    (case a20 => k_is); (case l20 => k_is); (case c20 => k_is); (case k20 => k_is)
    (case z1 => k_is); (case z2 => k_is); (case z3 => k_is); (case z4 => k_is); (case z5 => k_is); (case z6 => k_is); (case z7 => k_is); (case z8 => k_is); (case z9 => k_is); (case z10 => k_is)
    (case nT => rfl)


