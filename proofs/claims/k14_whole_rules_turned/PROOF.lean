import PyProof.Rows.All
import Wide.All
import OpenK.AllK
import Wide.FinOn
import HandS.ForMost
import HandS.Walk
import HandS.AnyAll
import HandS.TupAny
import HandS.Style
import HandS.Exc
import HandS.ExcOwn
import HandS.TryOnly
import HandS.WordsExc
import HandS.IsInst
import HandS.Wide
import HandS.GenOver
import PyProof.GenCompD
import HandS.More
import HandS.Text
import HandS.TupLe
import HandS.Dict
import PyProof.TypeEq
import HandS.Iter
import HandS.DictComp
import PyProof.Draws
import PyProof.EnumMake
import HandS.Rev
import PyProof.InstEq
import HandS.ExcIs
import HandS.Conv
import HandS.SortOrd
import HandS.List
import HandS.Deep
import KE.KDictDisplayH
import HandS.EndTab
import HandS.DictEq
import KE.KDictZip
import PySem.Challenge.RW_pilerun_k14_whole_rules_turned
set_option Elab.async false
set_option linter.all false
set_option maxRecDepth 100000
set_option maxHeartbeats 2000000
/-! DL1: data without a heap (Dt), what a value is in a heap (Rp), the state of a body (Sta), expressions by what data they give (PD). -/
namespace DL
open PySem PySem.Spec L2

/-! ### data -/
inductive Dt where
  | non | bl (b : Bool) | int (i : Int) | str (s : List Nat) | ty (n : String)
  | tup (ds : List Dt) | lst (ds : List Dt)
  | dk (ks : List Key) (ds : List Dt)
  | dt (ks : List (List Key)) (ds : List Dt)
  | scr (ns : List Int)
  | ins (C : Addr) (ns : List Str) (ds : List Dt)
  | opq (p : Hp → V → Prop)

/-- what stands still; what may be locked while it is walked -/
def fx : HO → Bool
  | .lst _ => true | .tup _ => true | .ins _ _ _ => true | .own _ => true | .frz _ (.lst _) => true | _ => false
def dct : HO → Bool
  | .dK _ => true | .dT _ => true | _ => false
/-- F' may be read wherever F may -/
structure Le (F F' : Hp) : Prop where
  f : ∀ a u, F a = some u → fx u = true → F' a = some u
  r : ∀ a u, dct u = true → Rd F a u → Rd F' a u
theorem Le.refl (F : Hp) : Le F F := ⟨fun _ _ h _ => h, fun _ _ _ h => h⟩
theorem Le.trans {F G H : Hp} (a : Le F G) (b : Le G H) : Le F H := ⟨fun x u h i => b.f x u (a.f x u h i) i, fun x u i h => b.r x u i (a.r x u i h)⟩
theorem Le.of_same {F F' : Hp} (h : ∀ a o, F a = some o → F' a = some o) : Le F F' := ⟨fun a u e _ => h a u e, fun a u _ r => by
  rcases r with r | ⟨o, r⟩
  · exact .inl (h a _ r)
  · exact .inr ⟨o, h a _ r⟩⟩
theorem Le.scr {K : PySem.W.Frag} {F F' : Hp} (e : Le F F') {a : Addr} {xs : List V} (h : SqL K F a xs) : SqL K F' a xs := by
  rcases h with (h | ⟨o, h⟩) | h
  · exact .inl (.inl (e.f _ _ h rfl))
  · exact .inl (.inr ⟨o, e.f _ _ h rfl⟩)
  · exact .inr h

/-- the value v is the data d, by what F tells -/
inductive Rp (K : PySem.W.Frag) (F : Hp) : V → Dt → Prop where
  | non : Rp K F .non .non
  | bl (b : Bool) : Rp K F (.bl b) (.bl b)
  | int (i : Int) : Rp K F (.int i) (.int i)
  | str (s : List Nat) : Rp K F (.str ⟨s.toArray⟩) (.str s)
  | ty (n : String) : Rp K F (.ty n) (.ty n)
  | tup {a : Addr} {xs : List V} {ds : List Dt} (h : F a = some (.tup xs)) (hl : xs.length = ds.length) (hi : ∀ (i : Nat) (x : V) (d : Dt), xs[i]? = some x → ds[i]? = some d → Rp K F x d) : Rp K F (.ref a) (.tup ds)
  | lst {a : Addr} {xs : List V} {ds : List Dt} (h : F a = some (.lst xs)) (hl : xs.length = ds.length) (hi : ∀ (i : Nat) (x : V) (d : Dt), xs[i]? = some x → ds[i]? = some d → Rp K F x d) : Rp K F (.ref a) (.lst ds)
  | dk {a : Addr} {kvs : List (Key × V)} {ks : List Key} {ds : List Dt} (h : Rd F a (.dK kvs)) (hk : kvs.map (·.1) = ks) (hl : kvs.length = ds.length)
      (hi : ∀ (i : Nat) (x : Key × V) (d : Dt), kvs[i]? = some x → ds[i]? = some d → Rp K F x.2 d) : Rp K F (.ref a) (.dk ks ds)
  | dt {a : Addr} {kvs : List (List Key × V)} {ks : List (List Key)} {ds : List Dt} (h : Rd F a (.dT kvs)) (hk : kvs.map (·.1) = ks) (hl : kvs.length = ds.length)
      (hi : ∀ (i : Nat) (x : List Key × V) (d : Dt), kvs[i]? = some x → ds[i]? = some d → Rp K F x.2 d) : Rp K F (.ref a) (.dt ks ds)
  | scr {a : Addr} {ns : List Int} (h : SqL K F a (ns.map V.int)) : Rp K F (.ref a) (.scr ns)
  | ins {a C dx : Addr} {kvs : List (Str × V)} {ns : List Str} {ds : List Dt} (h : F a = some (.ins C dx kvs)) (hk : kvs.map (·.1) = ns) (hl : kvs.length = ds.length)
      (hi : ∀ (i : Nat) (x : Str × V) (d : Dt), kvs[i]? = some x → ds[i]? = some d → Rp K F x.2 d) : Rp K F (.ref a) (.ins C ns ds)
  | opq {v : V} {p : Hp → V → Prop} (h : ∀ F', Le F F' → p F' v) : Rp K F v (.opq p)
theorem Rp.mono {K : PySem.W.Frag} {F F' : Hp} (e : Le F F') {v : V} {d : Dt} (h : Rp K F v d) : Rp K F' v d := by
  induction h with
  | non => exact .non
  | bl b => exact .bl b
  | int i => exact .int i
  | str s => exact .str s
  | ty n => exact .ty n
  | tup h hl _ ih => exact .tup (e.f _ _ h rfl) hl ih
  | lst h hl _ ih => exact .lst (e.f _ _ h rfl) hl ih
  | dk h hk hl _ ih => exact .dk (e.r _ _ rfl h) hk hl ih
  | dt h hk hl _ ih => exact .dt (e.r _ _ rfl h) hk hl ih
  | scr h => exact .scr (e.scr h)
  | ins h hk hl _ ih => exact .ins (e.f _ _ h rfl) hk hl ih
  | opq h => exact .opq fun F'' l => h F'' (e.trans l)
/-- values, data, one by one -/
structure RpA (K : PySem.W.Frag) (F : Hp) (xs : List V) (ds : List Dt) : Prop where
  len : xs.length = ds.length
  at_ : ∀ (i : Nat) (x : V) (d : Dt), xs[i]? = some x → ds[i]? = some d → Rp K F x d
section
variable {K : PySem.W.Frag} {F F' : Hp} {v : V} {d : Dt} {xs ys : List V} {ds es : List Dt}
theorem RpA.mono (e : Le F F') (h : RpA K F xs ds) : RpA K F' xs ds := ⟨h.len, fun i x d a b => (h.at_ i x d a b).mono e⟩
theorem RpA.nil : RpA K F [] [] := ⟨rfl, fun i x d a => by simp at a⟩
theorem RpA.cons (h : Rp K F v d) (t : RpA K F xs ds) : RpA K F (v :: xs) (d :: ds) := by
  refine ⟨by rw [List.length_cons, List.length_cons, t.len], fun i x e a b => ?_⟩
  cases i with
  | zero =>
    simp at a b
    subst a; subst b
    exact h
  | succ i => exact t.at_ i x e (by simpa using a) (by simpa using b)
theorem RpA.append (h : RpA K F xs ds) (t : RpA K F ys es) : RpA K F (xs ++ ys) (ds ++ es) := by
  refine ⟨by rw [List.length_append, List.length_append, h.len, t.len], fun i x e a b => ?_⟩
  by_cases hi : i < xs.length
  · rw [List.getElem?_append_left hi] at a
    rw [List.getElem?_append_left (by rw [← h.len]; exact hi)] at b
    exact h.at_ i x e a b
  · rw [List.getElem?_append_right (by omega)] at a
    rw [List.getElem?_append_right (by rw [← h.len]; omega), ← h.len] at b
    exact t.at_ _ x e a b
theorem RpA.snoc (h : RpA K F xs ds) (t : Rp K F v d) : RpA K F (xs ++ [v]) (ds ++ [d]) := h.append (.cons t .nil)
theorem RpA.take (h : RpA K F xs ds) (n : Nat) : RpA K F (xs.take n) (ds.take n) := by
  refine ⟨by rw [List.length_take, List.length_take, h.len], fun i x e a b => ?_⟩
  rw [List.getElem?_take] at a b
  split at a
  · rename_i hi
    rw [if_pos hi] at b
    exact h.at_ i x e a b
  · cases a
theorem RpA.drop (h : RpA K F xs ds) (n : Nat) : RpA K F (xs.drop n) (ds.drop n) := by
  refine ⟨by rw [List.length_drop, List.length_drop, h.len], fun i x e a b => ?_⟩
  rw [List.getElem?_drop] at a b
  exact h.at_ _ x e a b
theorem RpA.reverse (h : RpA K F xs ds) : RpA K F xs.reverse ds.reverse := by
  refine ⟨by rw [List.length_reverse, List.length_reverse, h.len], fun i x e a b => ?_⟩
  have hi : i < xs.length := by
    have := (List.getElem?_eq_some_iff.mp a).1
    rwa [List.length_reverse] at this
  rw [List.getElem?_reverse hi] at a
  rw [List.getElem?_reverse (by rw [← h.len]; exact hi), ← h.len] at b
  exact h.at_ _ x e a b
theorem RpA.get (h : RpA K F xs ds) {i : Nat} {d : Dt} (e : ds[i]? = some d) : ∃ x, xs[i]? = some x ∧ Rp K F x d := by
  have hi : i < xs.length := by rw [h.len]; exact (List.getElem?_eq_some_iff.mp e).1
  exact ⟨xs[i], List.getElem?_eq_getElem hi, h.at_ i _ d (List.getElem?_eq_getElem hi) e⟩
theorem RpA.got (h : RpA K F xs ds) {i : Nat} {x : V} (e : xs[i]? = some x) : ∃ d, ds[i]? = some d ∧ Rp K F x d := by
  have hi : i < ds.length := by rw [← h.len]; exact (List.getElem?_eq_some_iff.mp e).1
  exact ⟨ds[i], List.getElem?_eq_getElem hi, h.at_ i x _ e (List.getElem?_eq_getElem hi)⟩
theorem RpA.uncons {xs : List V} (h : RpA K F xs (d :: ds)) : ∃ v r, xs = v :: r ∧ Rp K F v d ∧ RpA K F r ds := by
  cases xs with
  | nil => have := h.len; simp at this
  | cons v r => exact ⟨v, r, rfl, h.at_ 0 v d rfl rfl, by have := h.len; simpa using this, fun i x e a b => h.at_ (i + 1) x e (by simpa using a) (by simpa using b)⟩
theorem RpA.unnil {xs : List V} (h : RpA K F xs []) : xs = [] := by
  have := h.len
  exact List.eq_nil_of_length_eq_zero this
theorem RpA.ints : ∀ (ns : List Int), RpA K F (ns.map V.int) (ns.map Dt.int)
  | [] => .nil
  | n :: r => .cons (.int n) (RpA.ints r)
/-- what the data's form tells of the value -/
theorem Rp.int_of {i : Int} (h : Rp K F v (.int i)) : v = .int i := by cases h; rfl
theorem Rp.bl_of {b : Bool} (h : Rp K F v (.bl b)) : v = .bl b := by cases h; rfl
theorem Rp.str_of {s : List Nat} (h : Rp K F v (.str s)) : v = .str ⟨s.toArray⟩ := by cases h; rfl
theorem Rp.ty_of {n : String} (h : Rp K F v (.ty n)) : v = .ty n := by cases h; rfl
theorem Rp.non_of (h : Rp K F v .non) : v = .non := by cases h; rfl
theorem Rp.tup_of (h : Rp K F v (.tup ds)) : ∃ a xs, v = .ref a ∧ F a = some (.tup xs) ∧ RpA K F xs ds := by
  cases h with
  | tup h hl hi => exact ⟨_, _, rfl, h, hl, hi⟩
theorem Rp.lst_of (h : Rp K F v (.lst ds)) : ∃ a xs, v = .ref a ∧ F a = some (.lst xs) ∧ RpA K F xs ds := by
  cases h with
  | lst h hl hi => exact ⟨_, _, rfl, h, hl, hi⟩
end

/-! ### what is one's own is masked -/
def mask (H : Hp) (O : List Addr) : Hp := fun a => if a ∈ O then none else H a
theorem mask_in {H : Hp} {O : List Addr} {a : Addr} (h : a ∈ O) : mask H O a = none := if_pos h
theorem mask_out {H : Hp} {O : List Addr} {a : Addr} (h : a ∉ O) : mask H O a = H a := if_neg h
theorem mask_some {H : Hp} {O : List Addr} {a : Addr} {o : HO} (e : mask H O a = some o) : H a = some o ∧ a ∉ O := by
  by_cases h : a ∈ O
  · rw [mask_in h] at e; cases e
  · rw [mask_out h] at e; exact ⟨e, h⟩
theorem mask_le (H : Hp) (O : List Addr) : Le (mask H O) H := Le.of_same fun a o e => by
  by_cases h : a ∈ O
  · rw [mask_in h] at e; cases e
  · rwa [mask_out h] at e
theorem mask_sub {H : Hp} {O O' : List Addr} (h : ∀ a ∈ O, a ∈ O') : Le (mask H O') (mask H O) := Le.of_same fun a o e => by
  by_cases h1 : a ∈ O'
  · rw [mask_in h1] at e; cases e
  · rw [mask_out fun z => h1 (h a z)]
    rwa [mask_out h1] at e
theorem mask_upd {H : Hp} {O : List Addr} {a : Addr} {o : HO} (h : a ∈ O) : mask (upd H a o) O = mask H O := by
  funext b
  by_cases hb : b ∈ O
  · rw [mask_in hb, mask_in hb]
  · rw [mask_out hb, mask_out hb, upd_ne (fun e => hb (by rw [e]; exact h))]
theorem mask_new {H : Hp} {O : List Addr} {a : Addr} {o : HO} (h : H a = none) : mask (upd H a o) (a :: O) = mask H O := by
  funext b
  by_cases hb : b = a
  · subst hb
    rw [mask_in List.mem_cons_self]
    by_cases h2 : b ∈ O
    · rw [mask_in h2]
    · rw [mask_out h2, h]
  · by_cases h2 : b ∈ O
    · rw [mask_in h2, mask_in (List.mem_cons_of_mem _ h2)]
    · rw [mask_out h2, mask_out (fun z => (List.mem_cons.mp z).elim hb h2), upd_ne hb]

/-! ### the state of a body -/
/-- a thing of one's own: a list, a dict -/
inductive Ow where
  | lst (ds : List Dt) | dk (kds : List (Key × Dt)) | dt (kds : List (List Key × Dt)) | ins (C : Addr) (fs : List (Str × Dt))
inductive En where
  | imm (d : Dt) | own (l : Addr) (br : Bool) (o : Ow)
abbrev DEnv := List (Option En)
/-- pairs -/
structure KRp {κ : Type} (K : PySem.W.Frag) (F : Hp) (kvs : List (κ × V)) (kds : List (κ × Dt)) : Prop where
  keys : kvs.map (·.1) = kds.map (·.1)
  vals : RpA K F (kvs.map (·.2)) (kds.map (·.2))
def OwAt (K : PySem.W.Frag) (F H : Hp) (l : Addr) : Ow → Prop
  | .lst ds => ∃ vs, H l = some (.lst vs) ∧ RpA K F vs ds
  | .dk kds => ∃ kvs, H l = some (.dK kvs) ∧ KRp K F kvs kds
  | .dt kds => ∃ kvs, H l = some (.dT kvs) ∧ KRp K F kvs kds
  | .ins C fs => ∃ dx kvs, H l = some (.ins C dx kvs) ∧ KRp K F kvs fs
theorem KRp.mono {κ : Type} {K : PySem.W.Frag} {F F' : Hp} {kvs : List (κ × V)} {kds : List (κ × Dt)} (e : Le F F') (h : KRp K F kvs kds) : KRp K F' kvs kds := ⟨h.keys, h.vals.mono e⟩
theorem OwAt.mono {K : PySem.W.Frag} {F F' H H' : Hp} {l : Addr} {o : Ow} (e : Le F F') (hl : ∀ u, H l = some u → H' l = some u) (h : OwAt K F H l o) : OwAt K F' H' l o := by
  cases o with
  | lst ds => obtain ⟨vs, a, b⟩ := h; exact ⟨vs, hl _ a, b.mono e⟩
  | dk ds => obtain ⟨vs, a, b⟩ := h; exact ⟨vs, hl _ a, b.mono e⟩
  | dt ds => obtain ⟨vs, a, b⟩ := h; exact ⟨vs, hl _ a, b.mono e⟩
  | ins C fs => obtain ⟨dx, vs, a, b⟩ := h; exact ⟨dx, vs, hl _ a, b.mono e⟩
theorem OwAt.there {K : PySem.W.Frag} {F H : Hp} {l : Addr} {o : Ow} (h : OwAt K F H l o) : ∃ u, H l = some u ∧ Mut (some u) := by
  cases o with
  | lst ds => obtain ⟨vs, a, b⟩ := h; exact ⟨_, a, trivial⟩
  | dk ds => obtain ⟨vs, a, b⟩ := h; exact ⟨_, a, trivial⟩
  | dt ds => obtain ⟨vs, a, b⟩ := h; exact ⟨_, a, trivial⟩
  | ins C fs => obtain ⟨dx, vs, a, b⟩ := h; exact ⟨_, a, trivial⟩
def SlotOk (K : PySem.W.Frag) (O : List Addr) (H : Hp) (v : V) : En → Prop
  | .imm d => Rp K (mask H O) v d
  | .own l _ o => v = .ref l ∧ l ∈ O ∧ OwAt K (mask H O) H l o
/-- a def's own frame: what was one's own ahead of it, what it may change (handed in), the heap at its entry -/
structure Fm where
  O0 : List Addr
  B : List Addr
  H0 : Hp
  pins : List (V × Dt)
/-- a lock: a dict that is walked -/
abbrev Lk := List (Addr × Obj × HO)
/-- the growth that an expression brings -/
def Gr (T : List Addr) (H H' : Hp) : Prop := ∀ a o, a ∉ T → H a = some o → H' a = some o
theorem Gr.refl {T : List Addr} {H : Hp} : Gr T H H := fun _ _ _ h => h
theorem Gr.trans {T : List Addr} {H H1 H2 : Hp} (a : Gr T H H1) (b : Gr T H1 H2) : Gr T H H2 := fun x o n h => b x o n (a x o n h)
theorem Gr.new {T : List Addr} {H : Hp} {p : Addr} {o : HO} (h : H p = none) : Gr T H (upd H p o) := fun a u _ e => by
  rw [upd_ne (ne_of_none e h)]; exact e
theorem Gr.back {T : List Addr} {H H' : Hp} {p : Addr} (e : Gr T H H') (hT : p ∉ T) (h : H' p = none) : H p = none := by
  cases h1 : H p with
  | none => rfl
  | some o => rw [e p o hT h1] at h; cases h
theorem Gr.mask {T O : List Addr} {H H' : Hp} (h : Gr T H H') (t : ∀ P ∈ T, P ∈ O) : Le (mask H O) (mask H' O) := Le.of_same fun a o e => by
  by_cases ha : a ∈ O
  · rw [mask_in ha] at e; cases e
  · rw [mask_out ha] at e ⊢
    exact h a o (fun z => ha (t a z)) e

/-- there, and no tuple -/
def Held (H : Hp) (a : Addr) : Prop := H a ≠ none ∧ ∀ xs, H a ≠ some (.tup xs)
theorem Held.keep {H H' : Hp} {a : Addr} (h : Held H a) (k : ∀ u, H a = some u → H' a = some u) : Held H' a := by
  obtain ⟨h1, h2⟩ := h
  cases q : H a with
  | none => exact absurd q h1
  | some u =>
    have e := k u q
    refine ⟨(by rw [e]; exact (fun z => nomatch z)), fun xs z => h2 xs ?_⟩
    rw [e] at z
    rw [q, z]
theorem Held.of {H : Hp} {a : Addr} {u : HO} (e : H a = some u) (n : ∀ xs, u ≠ .tup xs) : Held H a := ⟨(by rw [e]; exact (fun z => nomatch z)), fun xs z => n xs (by rw [e] at z; cases z; rfl)⟩
theorem OwAt.held {K : PySem.W.Frag} {F H : Hp} {l : Addr} {o : Ow} (h : OwAt K F H l o) : Held H l := by
  cases o with
  | lst ds => obtain ⟨vs, a, b⟩ := h; exact .of a fun _ z => nomatch z
  | dk ds => obtain ⟨vs, a, b⟩ := h; exact .of a fun _ z => nomatch z
  | dt ds => obtain ⟨vs, a, b⟩ := h; exact .of a fun _ z => nomatch z
  | ins C fs => obtain ⟨dx, vs, a, b⟩ := h; exact .of a fun _ z => nomatch z
structure Sta (K : PySem.W.Frag) (T : List Addr) (fm : Fm) (L : Lk) (O : List Addr) (σ : St) (H : Hp) (Δ : DEnv) : Prop where
  tO : ∀ P ∈ T, P ∈ O
  tab : ∀ P ∈ T, GxR.TabG H P
  dom : ∀ l ∈ O, Held H l
  o0 : ∀ l ∈ fm.O0, l ∈ O
  b0 : ∀ l ∈ fm.B, l ∈ fm.O0
  d0 : ∀ l ∈ fm.O0, fm.H0 l ≠ none
  pin : ∀ p ∈ fm.pins, Rp K (mask H O) p.1 p.2
  keep : ∀ a o, fm.H0 a = some o → a ∉ T → a ∉ fm.B → (∀ p ∈ L, p.1 ≠ a) → H a = some o
  lock : ∀ p ∈ L, H p.1 = some (.frz p.2.1 p.2.2)
  len : σ.length = Δ.length
  slot : ∀ (i : Nat) (e : En), Δ[i]? = some (some e) → ∃ v, σ[i]? = some (some v) ∧ SlotOk K O H v e
  own : ∀ (i : Nat) (l : Addr) (br : Bool) (o : Ow), Δ[i]? = some (some (.own l br o)) → l ∉ T ∧ (∀ p ∈ L, p.1 ≠ l) ∧ (if br then l ∈ fm.B else fm.H0 l = none)
  sep : ∀ (i j : Nat) (l : Addr) (br br' : Bool) (o o' : Ow), Δ[i]? = some (some (.own l br o)) → Δ[j]? = some (some (.own l br' o')) → i = j

section
variable {K : PySem.W.Frag} {T : List Addr} {fm : Fm} {L : Lk} {O : List Addr} {σ : St} {H H' : Hp} {Δ : DEnv} {v : V} {e : En} {d : Dt}
theorem SlotOk.gr (g : Gr T H H') (tO : ∀ P ∈ T, P ∈ O) (hown : ∀ l br o, e = .own l br o → l ∉ T) (h : SlotOk K O H v e) : SlotOk K O H' v e := by
  cases e with
  | imm d => exact Rp.mono (g.mask tO) h
  | own l br o =>
    obtain ⟨h1, h2, h3⟩ := h
    exact ⟨h1, h2, h3.mono (g.mask tO) fun u hu => g l u (hown l br o rfl) hu⟩
theorem Sta.gr (s : Sta K T fm L O σ H Δ) (g : Gr T H H') (ht : ∀ P ∈ T, GxR.TabG H' P) : Sta K T fm L O σ H' Δ where
  tO := s.tO
  tab := ht
  dom := fun l hl => by
    by_cases hT : l ∈ T
    · obtain ⟨ps, e, _⟩ := ht l hT
      exact .of e fun _ z => nomatch z
    · exact (s.dom l hl).keep fun o q => g l o hT q
  o0 := s.o0
  b0 := s.b0
  d0 := s.d0
  pin := fun p hp => (s.pin p hp).mono (g.mask s.tO)
  keep := fun a o e h1 h2 h3 => g a o h1 (s.keep a o e h1 h2 h3)
  lock := fun p hp => by
    have h := s.lock p hp
    refine g _ _ (fun z => ?_) h
    obtain ⟨ps, e, _⟩ := s.tab _ z
    rw [h] at e; cases e
  len := s.len
  slot := fun i e h => by
    obtain ⟨v, h1, h2⟩ := s.slot i e h
    refine ⟨v, h1, h2.gr g s.tO fun l br o z => ?_⟩
    subst z
    exact (s.own i l br o h).1
  own := s.own
  sep := s.sep
/-- a new thing that nobody owns -/
theorem Sta.new {p : Addr} {o : HO} (s : Sta K T fm L O σ H Δ) (h : H p = none) : Sta K T fm L O σ (upd H p o) Δ :=
  s.gr (Gr.new h) fun P hP => by
    obtain ⟨ps, e, q⟩ := s.tab P hP
    exact ⟨ps, by rw [upd_ne (ne_of_none e h)]; exact e, q⟩
theorem Sta.not_own (s : Sta K T fm L O σ H Δ) {p : Addr} (h : H p = none) : p ∉ O := fun z => (s.dom p z).1 h
/-- a slot's data -/
theorem Sta.imm (s : Sta K T fm L O σ H Δ) {i : Nat} (h : Δ[i]? = some (some (.imm d))) : ∃ v, σ[i]? = some (some v) ∧ Rp K (mask H O) v d := s.slot i _ h
theorem Sta.ow (s : Sta K T fm L O σ H Δ) {i : Nat} {l : Addr} {br : Bool} {o : Ow} (h : Δ[i]? = some (some (.own l br o))) : σ[i]? = some (some (.ref l)) ∧ l ∈ O ∧ OwAt K (mask H O) H l o := by
  obtain ⟨v, h1, h2, h3, h4⟩ := s.slot i _ h
  subst h2
  exact ⟨h1, h3, h4⟩
theorem getset_ne {α : Type} {l : List α} {i j : Nat} {x : α} (h : i ≠ j) : (l.set i x)[j]? = l[j]? := List.getElem?_set_ne h
/-- a name is stored -/
theorem Sta.set (s : Sta K T fm L O σ H Δ) {i : Nat} {v : V} (hi : i < Δ.length) (h : Rp K (mask H O) v d) : Sta K T fm L O (σ.set i (some v)) H (Δ.set i (some (.imm d))) where
  tO := s.tO
  tab := s.tab
  dom := s.dom
  o0 := s.o0
  b0 := s.b0
  d0 := s.d0
  pin := s.pin
  keep := s.keep
  lock := s.lock
  len := by rw [List.length_set, List.length_set, s.len]
  slot := fun j e he => by
    by_cases hj : i = j
    · subst hj
      rw [List.getElem?_set_self hi] at he
      cases he
      exact ⟨v, by rw [List.getElem?_set_self (by rw [s.len]; exact hi)], h⟩
    · rw [getset_ne hj] at he ⊢
      exact s.slot j e he
  own := fun j l br o he => by
    by_cases hj : i = j
    · subst hj
      rw [List.getElem?_set_self hi] at he
      cases he
    · rw [getset_ne hj] at he
      exact s.own j l br o he
  sep := fun j k l br br' o o' h1 h2 => by
    by_cases hj : i = j
    · subst hj
      rw [List.getElem?_set_self hi] at h1
      cases h1
    · rw [getset_ne hj] at h1
      by_cases hk : i = k
      · subst hk
        rw [List.getElem?_set_self hi] at h2
        cases h2
      · rw [getset_ne hk] at h2
        exact s.sep j k l br br' o o' h1 h2
/-- a thing of one's own is stored in a name: p is new -/
theorem Sta.own_new (s : Sta K T fm L O σ H Δ) {i : Nat} {p : Addr} {u : HO} {o : Ow} (hi : i < Δ.length) (hp : H p = none) (h0 : fm.H0 p = none) (hu : OwAt K (mask H O) (upd H p u) p o) :
    Sta K T fm L (p :: O) (σ.set i (some (.ref p))) (upd H p u) (Δ.set i (some (.own p false o))) := by
  have hpT : p ∉ T := fun z => by
    obtain ⟨ps, e, _⟩ := s.tab p z
    rw [hp] at e; cases e
  have hpO := s.not_own hp
  have hm : mask (upd H p u) (p :: O) = mask H O := mask_new hp
  have hg : ∀ a v, H a = some v → upd H p u a = some v := fun a v e => by rw [upd_ne (ne_of_none e hp)]; exact e
  refine ⟨fun P hP => List.mem_cons_of_mem _ (s.tO P hP), fun P hP => ?_, fun l hl => ?_, fun l hl => List.mem_cons_of_mem _ (s.o0 l hl), s.b0, s.d0, fun q hq => by rw [hm]; exact s.pin q hq, fun a v e h1 h2 h3 => hg a v (s.keep a v e h1 h2 h3), fun q hq => hg _ _ (s.lock q hq), by rw [List.length_set, List.length_set, s.len], fun j e he => ?_, fun j l br o' he => ?_, fun j k l br1 br2 o1 o2 h1 h2 => ?_⟩
  · obtain ⟨ps, e, q⟩ := s.tab P hP
    exact ⟨ps, hg _ _ e, q⟩
  · rcases List.mem_cons.mp hl with z | z
    · subst z
      exact hu.held
    · by_cases hlp : l = p
      · subst hlp
        exact hu.held
      · exact (s.dom l z).keep fun v e => by rw [upd_ne hlp]; exact e
  · by_cases hj : i = j
    · subst hj
      rw [List.getElem?_set_self hi] at he
      cases he
      refine ⟨.ref p, by rw [List.getElem?_set_self (by rw [s.len]; exact hi)], rfl, List.mem_cons_self, ?_⟩
      rw [hm]
      exact hu
    · rw [getset_ne hj] at he ⊢
      obtain ⟨v, h1, h2⟩ := s.slot j e he
      refine ⟨v, h1, ?_⟩
      cases e with
      | imm d =>
        show Rp K (mask (upd H p u) (p :: O)) v d
        rw [hm]
        exact h2
      | own l br o' =>
        obtain ⟨q1, q2, q3⟩ := h2
        refine ⟨q1, List.mem_cons_of_mem _ q2, ?_⟩
        rw [hm]
        exact q3.mono (Le.refl _) fun w hw => hg l w hw
  · by_cases hj : i = j
    · subst hj
      rw [List.getElem?_set_self hi] at he
      cases he
      refine ⟨hpT, fun q hq z => ?_, h0⟩
      have := s.lock q hq
      rw [z, hp] at this; cases this
    · rw [getset_ne hj] at he
      exact s.own j l br o' he
  · by_cases hj : i = j
    · subst hj
      rw [List.getElem?_set_self hi] at h1
      cases h1
      by_cases hk : i = k
      · exact hk
      · rw [getset_ne hk] at h2
        obtain ⟨_, q, _⟩ := s.ow h2
        exact absurd q hpO
    · rw [getset_ne hj] at h1
      by_cases hk : i = k
      · subst hk
        rw [List.getElem?_set_self hi] at h2
        cases h2
        obtain ⟨_, q, _⟩ := s.ow h1
        exact absurd q hpO
      · rw [getset_ne hk] at h2
        exact s.sep j k l br1 br2 o1 o2 h1 h2
/-- a thing of one's own is changed -/
theorem Sta.own_upd (s : Sta K T fm L O σ H Δ) {i : Nat} {l : Addr} {u : HO} {br : Bool} {o o' : Ow} (hi : Δ[i]? = some (some (.own l br o))) (hu : OwAt K (mask H O) (upd H l u) l o') :
    Sta K T fm L O σ (upd H l u) (Δ.set i (some (.own l br o'))) := by
  obtain ⟨hσ, hlO, hat⟩ := s.ow hi
  obtain ⟨hlT, hlL, hl0⟩ := s.own i l br o hi
  have hlen : i < Δ.length := (List.getElem?_eq_some_iff.mp hi).1
  have hm : mask (upd H l u) O = mask H O := mask_upd hlO
  refine ⟨s.tO, fun P hP => ?_, fun b hb => ?_, s.o0, s.b0, s.d0, fun q hq => by rw [hm]; exact s.pin q hq, fun a v e h1 h2 h3 => ?_, fun q hq => ?_, by rw [List.length_set, s.len], fun j e he => ?_, fun j b br2 o2 he => ?_, fun j k b br1 br2 o1 o2 h1 h2 => ?_⟩
  · obtain ⟨ps, e, q⟩ := s.tab P hP
    exact ⟨ps, by rw [upd_ne fun (z : P = l) => hlT (z ▸ hP)]; exact e, q⟩
  · by_cases hb2 : b = l
    · subst hb2; exact hu.held
    · exact (s.dom b hb).keep fun v e => by rw [upd_ne hb2]; exact e
  · have hal : a ≠ l := fun z => by
      subst z
      cases br with
      | true => exact h2 hl0
      | false =>
        have z : fm.H0 a = none := hl0
        rw [z] at e; cases e
    rw [upd_ne hal]
    exact s.keep a v e h1 h2 h3
  · rw [upd_ne (hlL q hq)]
    exact s.lock q hq
  · by_cases hj : i = j
    · subst hj
      rw [List.getElem?_set_self hlen] at he
      cases he
      exact ⟨.ref l, hσ, rfl, hlO, by rw [hm]; exact hu⟩
    · rw [getset_ne hj] at he
      obtain ⟨v, h1, h2⟩ := s.slot j e he
      refine ⟨v, h1, ?_⟩
      cases e with
      | imm d =>
        show Rp K (mask (upd H l u) O) v d
        rw [hm]; exact h2
      | own b br2 o2 =>
        obtain ⟨q1, q2, q3⟩ := h2
        refine ⟨q1, q2, ?_⟩
        rw [hm]
        refine q3.mono (Le.refl _) fun w hw => ?_
        have hbl : b ≠ l := fun z => by
          subst z
          exact hj (s.sep i j b br br2 o o2 hi he)
        rw [upd_ne hbl]; exact hw
  · by_cases hj : i = j
    · subst hj
      rw [List.getElem?_set_self hlen] at he
      cases he
      exact ⟨hlT, hlL, hl0⟩
    · rw [getset_ne hj] at he
      exact s.own j b br2 o2 he
  · by_cases hj : i = j
    · subst hj
      rw [List.getElem?_set_self hlen] at h1
      cases h1
      by_cases hk : i = k
      · exact hk
      · rw [getset_ne hk] at h2
        exact s.sep i k l br br2 o o2 hi h2
    · rw [getset_ne hj] at h1
      by_cases hk : i = k
      · subst hk
        rw [List.getElem?_set_self hlen] at h2
        cases h2
        exact (s.sep i j l br br1 o o1 hi h1).symm
      · rw [getset_ne hk] at h2
        exact s.sep j k b br1 br2 o1 o2 h1 h2
/-- one's own thing is frozen -/
theorem Sta.freeze (s : Sta K T fm L O σ H Δ) {i : Nat} {l : Addr} {o : Ow} {d : Dt} (hi : Δ[i]? = some (some (.own l false o)))
    (hr : ∀ F : Hp, (∀ u, H l = some u → F l = some u) → Le (mask H O) F → Rp K F (.ref l) d) : Sta K T fm L (O.filter fun a => decide (a ≠ l)) σ H (Δ.set i (some (.imm d))) := by
  obtain ⟨hσ, hlO, hat⟩ := s.ow hi
  obtain ⟨hlT, hlL, hl0⟩ := s.own i l false o hi
  have hl0 : fm.H0 l = none := hl0
  have hlen : i < Δ.length := (List.getElem?_eq_some_iff.mp hi).1
  have memO : ∀ a, a ∈ (O.filter fun a => decide (a ≠ l)) ↔ a ∈ O ∧ a ≠ l := fun a => by simp [List.mem_filter]
  have le : Le (mask H O) (mask H (O.filter fun a => decide (a ≠ l))) := mask_sub fun a ha => ((memO a).mp ha).1
  refine ⟨fun P hP => (memO P).mpr ⟨s.tO P hP, fun z => hlT (z ▸ hP)⟩, s.tab, fun a ha => s.dom a ((memO a).mp ha).1, fun a ha => (memO a).mpr ⟨s.o0 a ha, fun z => s.d0 a ha (z ▸ hl0)⟩, s.b0, s.d0, fun q hq => (s.pin q hq).mono le, s.keep, s.lock, by rw [List.length_set, s.len], fun j e he => ?_, fun j b br o2 he => ?_, fun j k b br1 br2 o1 o2 h1 h2 => ?_⟩
  · by_cases hj : i = j
    · subst hj
      rw [List.getElem?_set_self hlen] at he
      cases he
      refine ⟨.ref l, hσ, hr _ (fun u hu => ?_) le⟩
      rw [mask_out (fun z => ((memO l).mp z).2 rfl)]
      exact hu
    · rw [getset_ne hj] at he
      obtain ⟨v, h1, h2⟩ := s.slot j e he
      refine ⟨v, h1, ?_⟩
      cases e with
      | imm d => exact Rp.mono le h2
      | own b br o2 =>
        obtain ⟨q1, q2, q3⟩ := h2
        exact ⟨q1, (memO b).mpr ⟨q2, fun z => hj (s.sep i j l false br o o2 hi (z ▸ he))⟩, q3.mono le fun w hw => hw⟩
  · by_cases hj : i = j
    · subst hj
      rw [List.getElem?_set_self hlen] at he
      cases he
    · rw [getset_ne hj] at he
      exact s.own j b br o2 he
  · by_cases hj : i = j
    · subst hj
      rw [List.getElem?_set_self hlen] at h1
      cases h1
    · rw [getset_ne hj] at h1
      by_cases hk : i = k
      · subst hk
        rw [List.getElem?_set_self hlen] at h2
        cases h2
      · rw [getset_ne hk] at h2
        exact s.sep j k b br1 br2 o1 o2 h1 h2
/-- slots forgotten -/
theorem Sta.weak {σ' : St} {Δ' : DEnv} (s : Sta K T fm L O σ H Δ) (hl : σ'.length = Δ'.length) (h : ∀ (i : Nat) (e : En), Δ'[i]? = some (some e) → Δ[i]? = some (some e) ∧ σ'[i]? = σ[i]?) : Sta K T fm L O σ' H Δ' :=
  ⟨s.tO, s.tab, s.dom, s.o0, s.b0, s.d0, s.pin, s.keep, s.lock, hl, fun i e he => by
    obtain ⟨h1, h2⟩ := h i e he
    rw [h2]
    exact s.slot i e h1, fun i l br o he => s.own i l br o (h i _ he).1, fun i j l br br' o o' h1 h2 => s.sep i j l br br' o o' (h i _ h1).1 (h j _ h2).1⟩
end
end DL

set_option Elab.async false
set_option linter.all false
set_option maxRecDepth 100000
set_option maxHeartbeats 2000000
/-! DL2: what an expression, a test, a block gives, in data. -/
namespace DL
open PySem PySem.Spec L2

def Ow.d : Ow → Dt
  | .lst ds => .lst ds
  | .dk kds => .dk (kds.map (·.1)) (kds.map (·.2))
  | .dt kds => .dt (kds.map (·.1)) (kds.map (·.2))
  | .ins C fs => .ins C (fs.map (·.1)) (fs.map (·.2))
inductive Res where
  | val (d : Dt) | own (o : Ow) | exc (C : Addr)
/-- what follows an expression -/
def RK (K : PySem.W.Frag) (T : List Addr) (fm : Fm) (L : Lk) (O : List Addr) (σ : St) (H : Hp) (Δ : DEnv) (Q : VK) (W : WX) : Res → Prop
  | .val d => ∀ v H2, Gr T H H2 → Sta K T fm L O σ H2 Δ → Rp K (mask H2 O) v d → Q v H2
  | .own o => ∀ p H2, H p = none → Gr T H H2 → Sta K T fm L (p :: O) σ H2 Δ → OwAt K (mask H2 (p :: O)) H2 p o → Q (.ref p) H2
  | .exc C => ∀ H2, Gr T H H2 → Sta K T fm L O σ H2 Δ → W (.ref C) none σ H2

def canE (X : Cx) (e : Expr) : TE := fun σ H Q => ∀ pins s, Inv X pins σ H s → wpAny (model X.prog X.w) X.A (eval e X.env) (EP X pins σ Q) X.xe s
theorem canE_ok {X : Cx} {e : Expr} : PE X e (canE X e) := ⟨fun pins s _ _ _ I h => h pins s I⟩
def canT (X : Cx) (e : Expr) : TT := fun σ H Q => ∀ pins s, Inv X pins σ H s → wpAny (model X.prog X.w) X.A (isTrue e X.env (eval e X.env)) (TP X pins σ Q) X.xe s
theorem canT_ok {X : Cx} {e : Expr} : PT X e (canT X e) := ⟨fun pins s _ _ _ I h => h pins s I⟩
def canW (X : Cx) (e : Expr) : TT := fun σ H Q => ∀ wh pins s, Inv X pins σ H s → wpAny (model X.prog X.w) X.A (isTrue e X.env wh) (TP X pins σ Q) X.xe s
theorem canW_ok {X : Cx} {e : Expr} : PW X e (canW X e) := ⟨fun wh pins s _ _ _ I h => h wh pins s I⟩
def canA (X : Cx) (es : List Expr) : TA := fun σ H Q => ∀ pos pins s, Inv X pins σ H s → wpAny (model X.prog X.w) X.A (spliced (backTo pos (starEach es X.env))) (AP X pins σ Q) X.xe s
theorem canA_ok {X : Cx} {es : List Expr} : PA X es (canA X es) := ⟨fun pos pins s _ _ _ I h => h pos pins s I⟩
def canS (X : Cx) (st : Stmt) : TS := fun D σ H => ∀ pins s, Inv X pins σ H s → wpAny (model X.prog X.w) X.A (exec st X.env) (SP X pins D) X.xe s
theorem canS_ok {X : Cx} {st : Stmt} : PS X st (canS X st) := ⟨fun pins s _ _ _ I h => h pins s I⟩
def canSs (X : Cx) (st : List Stmt) : TS := fun D σ H => ∀ pins s, Inv X pins σ H s → wpAny (model X.prog X.w) X.A (execs st X.env) (SP X pins D) X.xe s
theorem canSs_ok {X : Cx} {st : List Stmt} : PSs X st (canSs X st) := ⟨fun pins s _ _ _ I h => h pins s I⟩

structure PR (X : Cx) (T : List Addr) (Δ : DEnv) (e : Expr) (r : Res) : Prop where
  run : ∀ (fm : Fm) (L : Lk) (O : List Addr) (σ : St) (H : Hp) (Q : VK) (W : WX), Takes X W → Sta X.K T fm L O σ H Δ → RK X.K T fm L O σ H Δ Q W r → canE X e σ H Q
abbrev PD (X : Cx) (T : List Addr) (Δ : DEnv) (e : Expr) (d : Dt) : Prop := PR X T Δ e (.val d)
structure PTD (X : Cx) (T : List Addr) (Δ : DEnv) (e : Expr) (b : Bool) : Prop where
  run : ∀ (fm : Fm) (L : Lk) (O : List Addr) (σ : St) (H : Hp) (Q : Bool → Hp → Prop) (W : WX), Takes X W → Sta X.K T fm L O σ H Δ → (∀ H2, Gr T H H2 → Sta X.K T fm L O σ H2 Δ → Q b H2) → canT X e σ H Q
structure PWD (X : Cx) (T : List Addr) (Δ : DEnv) (e : Expr) (b : Bool) : Prop where
  run : ∀ (fm : Fm) (L : Lk) (O : List Addr) (σ : St) (H : Hp) (Q : Bool → Hp → Prop) (W : WX), Takes X W → Sta X.K T fm L O σ H Δ → (∀ H2, Gr T H H2 → Sta X.K T fm L O σ H2 Δ → Q b H2) → canW X e σ H Q
structure PAD (X : Cx) (T : List Addr) (Δ : DEnv) (es : List Expr) (ds : List Dt) : Prop where
  run : ∀ (fm : Fm) (L : Lk) (O : List Addr) (σ : St) (H : Hp) (Q : List V → Hp → Prop) (W : WX), Takes X W → Sta X.K T fm L O σ H Δ → (∀ vs H2, Gr T H H2 → Sta X.K T fm L O σ H2 Δ → RpA X.K (mask H2 O) vs ds → Q vs H2) → canA X es σ H Q

section
variable {K : PySem.W.Frag} {T : List Addr} {fm : Fm} {L : Lk} {O : List Addr} {σ : St} {H H' : Hp} {Δ : DEnv} {v : V} {d d1 d2 : Dt}
/-- nobody's own any more -/
theorem Sta.unown {p : Addr} (s : Sta K T fm L (p :: O) σ H Δ) (hO : p ∉ O) (h0 : p ∉ fm.O0) (hT : p ∉ T) (ho : ∀ (i : Nat) (l : Addr) (br : Bool) (o : Ow), Δ[i]? = some (some (.own l br o)) → l ≠ p) : Sta K T fm L O σ H Δ := by
  have le : Le (mask H (p :: O)) (mask H O) := mask_sub fun a ha => List.mem_cons_of_mem _ ha
  refine ⟨fun P hP => ?_, s.tab, fun l hl => s.dom l (List.mem_cons_of_mem _ hl), fun l hl => ?_, s.b0, s.d0, fun q hq => (s.pin q hq).mono le, s.keep, s.lock, s.len, fun i e he => ?_, s.own, s.sep⟩
  · rcases List.mem_cons.mp (s.tO P hP) with z | z
    · exact absurd (z ▸ hP) hT
    · exact z
  · rcases List.mem_cons.mp (s.o0 l hl) with z | z
    · exact absurd (z ▸ hl) h0
    · exact z
  · obtain ⟨v, h1, h2⟩ := s.slot i e he
    refine ⟨v, h1, ?_⟩
    cases e with
    | imm d => exact Rp.mono le h2
    | own l br o =>
      obtain ⟨q1, q2, q3⟩ := h2
      refine ⟨q1, (List.mem_cons.mp q2).resolve_left (ho i l br o he), q3.mono le fun u hu => hu⟩
/-- a new heap's thing may be hidden -/
theorem Sta.hide {p : Addr} {u : HO} (s : Sta K T fm L O σ H Δ) (hp : H p = none) (hu : ∀ xs, u ≠ .tup xs := by intro xs z; cases z) : Sta K T fm L (p :: O) σ (upd H p u) Δ := by
  have s1 := s.new (o := u) hp
  have hm : mask (upd H p u) (p :: O) = mask H O := mask_new hp
  refine ⟨fun P hP => List.mem_cons_of_mem _ (s.tO P hP), s1.tab, fun l hl => ?_, fun l hl => List.mem_cons_of_mem _ (s.o0 l hl), s.b0, s.d0, fun q hq => by rw [hm]; exact s.pin q hq, s1.keep, s1.lock, s.len, fun i e he => ?_, s.own, s.sep⟩
  · rcases List.mem_cons.mp hl with z | z
    · rw [z]; exact .of upd_same hu
    · exact s1.dom l z
  · obtain ⟨v, h1, h2⟩ := s.slot i e he
    refine ⟨v, h1, ?_⟩
    cases e with
    | imm d =>
      show Rp K (mask (upd H p u) (p :: O)) v d
      rw [hm]; exact h2
    | own l br o =>
      obtain ⟨q1, q2, q3⟩ := h2
      refine ⟨q1, List.mem_cons_of_mem _ q2, ?_⟩
      rw [hm]
      exact q3.mono (Le.refl _) fun w hw => by rw [upd_ne (ne_of_none hw hp)]; exact hw
theorem OwAt.rp {p : Addr} {o : Ow} {F : Hp} (h : OwAt K F H p o) (hF : Le F H) (hm : F p = none → True) {G : Hp} (hG : ∀ u, H p = some u → G p = some u) (le : Le F G) : Rp K G (.ref p) o.d := by
  cases o with
  | lst ds =>
    obtain ⟨vs, a, b⟩ := h
    exact .lst (hG _ a) b.len (b.mono le).at_
  | dk kds =>
    obtain ⟨kvs, a, b⟩ := h
    have hl : kvs.length = kds.length := by have := b.vals.len; simpa using this
    refine .dk (kvs := kvs) (.inl (hG _ a)) b.keys (by rw [List.length_map]; exact hl) fun i x e hx he => ?_
    exact (b.vals.mono le).at_ i x.2 e (by rw [List.getElem?_map, hx]; rfl) he
  | dt kds =>
    obtain ⟨kvs, a, b⟩ := h
    have hl : kvs.length = kds.length := by have := b.vals.len; simpa using this
    refine .dt (kvs := kvs) (.inl (hG _ a)) b.keys (by rw [List.length_map]; exact hl) fun i x e hx he => ?_
    exact (b.vals.mono le).at_ i x.2 e (by rw [List.getElem?_map, hx]; rfl) he
  | ins C fs =>
    obtain ⟨dx, kvs, a, b⟩ := h
    have hl : kvs.length = fs.length := by have := b.vals.len; simpa using this
    refine .ins (kvs := kvs) (hG _ a) b.keys (by rw [List.length_map]; exact hl) fun i x e hx he => ?_
    exact (b.vals.mono le).at_ i x.2 e (by rw [List.getElem?_map, hx]; rfl) he
theorem Sta.new_apart {p : Addr} (s : Sta K T fm L O σ H Δ) (hp : H p = none) : p ∉ O ∧ p ∉ fm.O0 ∧ p ∉ T ∧ ∀ (i : Nat) (l : Addr) (br : Bool) (o : Ow), Δ[i]? = some (some (.own l br o)) → l ≠ p := by
  have h1 := s.not_own hp
  refine ⟨h1, fun z => h1 (s.o0 p z), fun z => h1 (s.tO p z), fun i l br o he z => ?_⟩
  subst z
  obtain ⟨_, q, _⟩ := s.ow he
  exact h1 q
theorem Sta.fresh0 {p : Addr} (s : Sta K T fm L O σ H Δ) (hp : H p = none) : fm.H0 p = none := by
  cases q : fm.H0 p with
  | none => rfl
  | some o =>
    obtain ⟨a, b, c, _⟩ := s.new_apart hp
    have := s.keep p o q c (fun z => b (s.b0 p z)) (fun r hr z => by
      have := s.lock r hr
      rw [z, hp] at this; cases this)
    rw [hp] at this; cases this
end

section
variable {X : Cx} {T : List Addr} {Δ : DEnv} {e a b c : Expr} {es : List Expr} {d d1 d2 d3 : Dt} {ds : List Dt} {r : Res} {pos : Pos}

theorem PR.of {t : TE} (h : PE X e t) (k : ∀ (fm : Fm) (L : Lk) (O : List Addr) (σ : St) (H : Hp) (Q : VK) (W : WX), Takes X W → Sta X.K T fm L O σ H Δ → RK X.K T fm L O σ H Δ Q W r → t σ H Q) : PR X T Δ e r :=
  ⟨fun fm L O σ H Q W tk s q pins sh I => h.run pins sh σ H Q I (k fm L O σ H Q W tk s q)⟩
theorem PTD.of {t : TT} {k : Bool} (h : PT X e t) (f : ∀ (fm : Fm) (L : Lk) (O : List Addr) (σ : St) (H : Hp) (Q : Bool → Hp → Prop) (W : WX), Takes X W → Sta X.K T fm L O σ H Δ → (∀ H2, Gr T H H2 → Sta X.K T fm L O σ H2 Δ → Q k H2) → t σ H Q) : PTD X T Δ e k :=
  ⟨fun fm L O σ H Q W tk s q pins sh I => h.run pins sh σ H Q I (f fm L O σ H Q W tk s q)⟩
theorem PWD.of {t : TT} {k : Bool} (h : PW X e t) (f : ∀ (fm : Fm) (L : Lk) (O : List Addr) (σ : St) (H : Hp) (Q : Bool → Hp → Prop) (W : WX), Takes X W → Sta X.K T fm L O σ H Δ → (∀ H2, Gr T H H2 → Sta X.K T fm L O σ H2 Δ → Q k H2) → t σ H Q) : PWD X T Δ e k :=
  ⟨fun fm L O σ H Q W tk s q wh pins sh I => h.run wh pins sh σ H Q I (f fm L O σ H Q W tk s q)⟩
theorem PWD.pt {k : Bool} (h : PWD X T Δ e k) : PTD X T Δ e k := ⟨fun fm L O σ H Q W tk s q pins sh I => h.run fm L O σ H Q W tk s q _ pins sh I⟩
theorem PAD.of {t : TA} (h : PA X es t) (k : ∀ (fm : Fm) (L : Lk) (O : List Addr) (σ : St) (H : Hp) (Q : List V → Hp → Prop) (W : WX), Takes X W → Sta X.K T fm L O σ H Δ → (∀ vs H2, Gr T H H2 → Sta X.K T fm L O σ H2 Δ → RpA X.K (mask H2 O) vs ds → Q vs H2) → t σ H Q) : PAD X T Δ es ds :=
  ⟨fun fm L O σ H Q W tk s q pos pins sh I => h.run pos pins sh σ H Q I (k fm L O σ H Q W tk s q)⟩
/-- a new thing, taken as data -/
theorem PR.dat {o : Ow} (h : PR X T Δ e (.own o)) : PD X T Δ e o.d := ⟨fun fm L O σ H Q W tk s q => h.run fm L O σ H Q W tk s fun p H2 hp g s2 ow => by
  obtain ⟨a1, a2, a3, a4⟩ := s.new_apart hp
  refine q (.ref p) H2 g (s2.unown a1 a2 a3 a4) ?_
  refine ow.rp (mask_le _ _) (fun _ => trivial) (fun u hu => ?_) (mask_sub fun a ha => List.mem_cons_of_mem _ ha)
  rw [mask_out a1]; exact hu⟩

/-! ### names and constants -/
theorem pd_v (i : Nat) {x : Str} {pos : Pos} (h : Δ[i]? = some (some (.imm d))) (hN : X.N[i]? = some x := by rfl) (hv : Vis X.env.scope x := by first | exact Or.inl rfl | exact Or.inr (Or.inl rfl) | exact Or.inr (Or.inr rfl)) (hd : (x == ("__debug__" : Str)) = false := by decide)
    (hcd : (x == ("__classdict__" : Str)) = false := by decide) : PD X T Δ (.Name x pos) d :=
  .of (pe_var hN hv hd hcd) fun fm L O σ H Q W tk s q => by
    obtain ⟨v, h1, h2⟩ := s.imm h
    exact ⟨v, h1, q v H Gr.refl s h2⟩
theorem pd_c {e : Expr} {v : V} (h : PE X e (tC v)) (hr : ∀ F, Rp X.K F v d) : PD X T Δ e d := .of h fun fm L O σ H Q W tk s q => q v H Gr.refl s (hr _)
theorem pd_int {i j pos} : PD X T Δ (.Constant (.int i) j pos) (.int i) := pd_c pe_int fun _ => .int i
theorem pd_bl {b j pos} : PD X T Δ (.Constant (.bool b) j pos) (.bl b) := pd_c pe_bl fun _ => .bl b
theorem pd_non {j pos} : PD X T Δ (.Constant .none j pos) .non := pd_c pe_non fun _ => .non
theorem rp_str {K : PySem.W.Frag} {F : Hp} (x : Str) : Rp K F (.str x) (.str x.cps.toList) := by
  have h := Rp.str (K := K) (F := F) x.cps.toList
  have e : (⟨x.cps.toList.toArray⟩ : Str) = x := by cases x; simp
  rwa [e] at h
theorem pd_str {x j pos} : PD X T Δ (.Constant (.str x) j pos) (.str x.cps.toList) := pd_c pe_str fun _ => rp_str x
/-- a whole number of the module; a built-in type -/
theorem pd_gint {x : Str} {i : Int} {t : Tok} {pos : Pos} (hm : X.mg x = some (.int i t)) (hg : Gl X x := by rfl) (hd : (x == ("__debug__" : Str)) = false := by decide) : PD X T Δ (.Name x pos) (.int i) :=
  pd_c (pe_glob (v := .int i) hg hm ⟨t, rfl⟩ hd) fun _ => .int i
theorem pd_bty {x : Str} {n : String} {pos : Pos} (hm : X.mg x = none) (hv : bootBuiltins x = some (.type n)) (hg : Gl X x := by rfl) (hn : x ≠ "__name__" := by decide) (hd : (x == ("__debug__" : Str)) = false := by decide) : PD X T Δ (.Name x pos) (.ty n) :=
  pd_c (pe_bltn (v := .ty n) hg hm hv rfl hn hd) fun _ => .ty n

/-! ### operators -/
/-- an operation on values, in data -/
def OpD (X : Cx) (T : List Addr) (r : R2) (d1 d2 : Dt) (res : Res) : Prop := ∀ (fm : Fm) (L : Lk) (O : List Addr) (σ : St) (H : Hp) (Δ : DEnv) (Q : VK) (W : WX) (x y : V), Takes X W → Sta X.K T fm L O σ H Δ → Rp X.K (mask H O) x d1 → Rp X.K (mask H O) y d2 → RK X.K T fm L O σ H Δ Q W res → r x y H Q
theorem RK.back {K : PySem.W.Frag} {T : List Addr} {fm : Fm} {L : Lk} {O : List Addr} {σ : St} {H H1 : Hp} {Δ : DEnv} {Q : VK} {W : WX} {res : Res} (s : Sta K T fm L O σ H Δ) (s1 : Sta K T fm L O σ H1 Δ) (g : Gr T H H1) (h : RK K T fm L O σ H Δ Q W res) : RK K T fm L O σ H1 Δ Q W res := by
  cases res with
  | val d => exact fun v H2 g2 s2 r => h v H2 (g.trans g2) s2 r
  | own o => exact fun p H2 hp g2 s2 r => h p H2 (g.back (s1.new_apart hp).2.2.1 hp) (g.trans g2) s2 r
  | exc C => exact fun H2 g2 s2 => h H2 (g.trans g2) s2
theorem two {ta tb : TE} {r : R2} {res : Res} (ha : PD X T Δ a d1) (hb : PD X T Δ b d2) (hr : OpD X T r d1 d2 res) (fm : Fm) (L : Lk) (O : List Addr) (σ : St) (H : Hp) (Q : VK) (W : WX) (tk : Takes X W) (s : Sta X.K T fm L O σ H Δ) (q : RK X.K T fm L O σ H Δ Q W res) :
    tOp r (canE X a) (canE X b) σ H Q :=
  ha.run fm L O σ H _ W tk s fun x H1 g1 s1 r1 => hb.run fm L O σ H1 _ W tk s1 fun y H2 g2 s2 r2 => hr fm L O σ H2 Δ Q W x y tk s2 (r1.mono (g2.mask s2.tO)) r2 (q.back s s2 (g1.trans g2))
theorem pd_op {op : Operator} {r : R2} {res : Res} (ho : OpR X (binaryOp op) r) (ha : PD X T Δ a d1) (hb : PD X T Δ b d2) (hr : OpD X T r d1 d2 res) : PR X T Δ (.BinOp a op b pos) res :=
  .of (pe_op ho canE_ok canE_ok) (two (ta := canE X a) (tb := canE X b) ha hb hr)
theorem pd_cmp {op : CmpOp} {r : R2} {res : Res} (ho : OpR X (compareOp op) r) (hm : behindInMarks op b = false) (ha : PD X T Δ a d1) (hb : PD X T Δ b d2) (hr : OpD X T r d1 d2 res) : PR X T Δ (.Compare a [op] [b] pos) res :=
  .of (pe_cmpR ho canE_ok canE_ok hm) (two (ta := canE X a) (tb := canE X b) ha hb hr)
theorem ptd_cmp {op : CmpOp} {r : R2} {k : Bool} (ho : OpR X (compareOp op) r) (hm : behindInMarks op b = false) (ha : PD X T Δ a d1) (hb : PD X T Δ b d2) (hr : OpD X T r d1 d2 (.val (.bl k))) : PTD X T Δ (.Compare a [op] [b] pos) k :=
  .of (pt_cmpR ho canE_ok canE_ok hm) fun fm L O σ H Q W tk s q => two (ta := canE X a) (tb := canE X b) ha hb hr fm L O σ H _ W tk s fun v H2 g2 s2 r2 => ⟨k, r2.bl_of, q H2 g2 s2⟩
theorem opd_I0 {g : Int → Int → V} {i j : Int} {d : Dt} (h : ∀ F, Rp X.K F (g i j) d) : OpD X T (rI0 g) (.int i) (.int j) (.val d) := fun fm L O σ H Δ Q W x y tk s r1 r2 q =>
  ⟨i, j, r1.int_of, r2.int_of, q _ H Gr.refl s (h _)⟩
theorem opd_I {C : Int → Int → Prop} {g : Int → Int → V} {i j : Int} {d : Dt} (hc : C i j) (h : ∀ F, Rp X.K F (g i j) d) : OpD X T (rI C g) (.int i) (.int j) (.val d) := fun fm L O σ H Δ Q W x y tk s r1 r2 q =>
  ⟨i, j, r1.int_of, r2.int_of, hc, q _ H Gr.refl s (h _)⟩
theorem pd_addI {i j : Int} (ha : PD X T Δ a (.int i)) (hb : PD X T Δ b (.int j)) : PD X T Δ (.BinOp a .Add b pos) (.int (i + j)) := pd_op op_add ha hb (opd_I0 fun _ => .int _)
theorem pd_subI {i j : Int} (ha : PD X T Δ a (.int i)) (hb : PD X T Δ b (.int j)) : PD X T Δ (.BinOp a .Sub b pos) (.int (i - j)) := pd_op op_sub ha hb (opd_I0 fun _ => .int _)
theorem pd_mulI {i j : Int} (ha : PD X T Δ a (.int i)) (hb : PD X T Δ b (.int j)) (hc : CMul i j) : PD X T Δ (.BinOp a .Mult b pos) (.int (i * j)) := pd_op op_mul ha hb (opd_I hc fun _ => .int _)
theorem pd_modI {i j : Int} (ha : PD X T Δ a (.int i)) (hb : PD X T Δ b (.int j)) (hc : 0 < j) : PD X T Δ (.BinOp a .Mod b pos) (.int (i % j)) := pd_op op_mod ha hb (opd_I hc fun _ => .int _)
theorem pd_divI {i j : Int} (ha : PD X T Δ a (.int i)) (hb : PD X T Δ b (.int j)) (hc : CDiv i j) : PD X T Δ (.BinOp a .FloorDiv b pos) (.int (i / j)) := pd_op op_fdiv ha hb (opd_I hc fun _ => .int _)
theorem pd_negI {i : Int} (ha : PD X T Δ a (.int i)) : PD X T Δ (.UnaryOp .USub a pos) (.int (-i)) :=
  .of (pe_un un_neg canE_ok) fun fm L O σ H Q W tk s q => ha.run fm L O σ H _ W tk s fun x H1 g1 s1 r1 => ⟨i, r1.int_of, q _ H1 g1 s1 (.int _)⟩
theorem str_app (i j : List Nat) : (⟨i.toArray⟩ : Str) ++ (⟨j.toArray⟩ : Str) = ⟨(i ++ j).toArray⟩ := by
  show (⟨i.toArray ++ j.toArray⟩ : Str) = _
  simp
theorem pd_addS {i j : List Nat} (ha : PD X T Δ a (.str i)) (hb : PD X T Δ b (.str j)) (hc : i.length + j.length ≤ sizeLine) : PD X T Δ (.BinOp a .Add b pos) (.str (i ++ j)) :=
  pd_op op_add_str ha hb fun fm L O σ H Δ Q W x y tk s r1 r2 q => ⟨_, _, r1.str_of, r2.str_of, by simpa [Str.length] using hc, q _ H Gr.refl s (by rw [str_app]; exact .str _)⟩
end
end DL

set_option Elab.async false
set_option linter.all false
set_option maxRecDepth 100000
set_option maxHeartbeats 2000000
/-! DL3: the operators, subscripts, slices, calls of built-ins. -/
namespace DL
open PySem PySem.Spec L2

section
variable {X : Cx} {T : List Addr} {Δ : DEnv} {e a b c : Expr} {es : List Expr} {d d1 d2 d3 : Dt} {ds : List Dt} {r : Res} {pos : Pos}
variable {K : PySem.W.Frag} {fm : Fm} {L : Lk} {O : List Addr} {σ : St} {H H' : Hp} {Q : VK} {W : WX}

/-! ### new things -/
theorem Rp.new_tup {p : Addr} {vs : List V} (s : Sta K T fm L O σ H Δ) (hp : H p = none) (ra : RpA K (mask H O) vs ds) : Rp K (mask (upd H p (.tup vs)) O) (.ref p) (.tup ds) := by
  have h1 := s.not_own hp
  refine .tup (xs := vs) ?_ ra.len (ra.mono ((Gr.new (T := T) hp).mask s.tO)).at_
  rw [mask_out h1, upd_same]
theorem RK.tup {p : Addr} {vs : List V} (q : RK K T fm L O σ H Δ Q W (.val (.tup ds))) (s : Sta K T fm L O σ H Δ) (ra : RpA K (mask H O) vs ds) (hp : H p = none) : Q (.ref p) (upd H p (.tup vs)) :=
  q _ _ (Gr.new hp) (s.new hp) (Rp.new_tup s hp ra)
theorem RK.new {p : Addr} {u : HO} {o : Ow} (q : RK K T fm L O σ H Δ Q W (.own o)) (s : Sta K T fm L O σ H Δ) (hp : H p = none) (hu : OwAt K (mask H O) (upd H p u) p o) : Q (.ref p) (upd H p u) :=
  q p _ hp (Gr.new hp) (s.hide hp fun xs z => hu.held.2 xs (by rw [upd_same, z])) (by rw [mask_new hp]; exact hu)
theorem RK.lst {p : Addr} {vs : List V} (q : RK K T fm L O σ H Δ Q W (.own (.lst ds))) (s : Sta K T fm L O σ H Δ) (ra : RpA K (mask H O) vs ds) (hp : H p = none) : Q (.ref p) (upd H p (.lst vs)) :=
  q.new s hp ⟨vs, upd_same, ra⟩
theorem Sta.out (s : Sta K T fm L O σ H Δ) {p : Addr} {u : HO} (h : mask H O p = some u) : H p = some u := (mask_some h).1

/-! ### displays -/
theorem pad_nil : PAD X T Δ [] [] := .of pa_nil fun fm L O σ H Q W tk s q => q [] H Gr.refl s .nil
theorem pad_cons (ha : PD X T Δ e d) (hr : PAD X T Δ es ds) (hs : starEach (e :: es) X.env = (false, eval e X.env) :: starEach es X.env := by rfl) : PAD X T Δ (e :: es) (d :: ds) :=
  .of (pa_cons canE_ok canA_ok hs) fun fm L O σ H Q W tk s q => ha.run fm L O σ H _ W tk s fun x H1 g1 s1 r1 => hr.run fm L O σ H1 _ W tk s1 fun xs H2 g2 s2 r2 =>
    q (x :: xs) H2 (g1.trans g2) s2 (.cons (r1.mono (g2.mask s2.tO)) r2)
theorem sz_le {n : Nat} (h : n ≤ 1000000) : n ≤ sizeLine := Nat.le_trans h (by decide)
theorem pd_tup {x1} (h : PAD X T Δ es ds) (hz : ds.length ≤ sizeLine := by first | decide | exact sz_le (by simp)) : PD X T Δ (.Tuple es x1 pos) (.tup ds) :=
  .of (pe_tup canA_ok) fun fm L O σ H Q W tk s q => h.run fm L O σ H _ W tk s fun vs H1 g1 s1 r1 => ⟨by rw [r1.len]; exact hz, fun p hp => (q.back s s1 g1).tup s1 r1 hp⟩
theorem pr_lst (h : PAD X T Δ es ds) (hz : ds.length ≤ sizeLine := by first | decide | exact sz_le (by simp)) : PR X T Δ (.List es pos) (.own (.lst ds)) :=
  .of (pe_lst canA_ok) fun fm L O σ H Q W tk s q => h.run fm L O σ H _ W tk s fun vs H1 g1 s1 r1 => ⟨by rw [r1.len]; exact hz, fun p hp => (q.back s s1 g1).lst s1 r1 hp⟩
theorem KRp.nil {κ : Type} {F : Hp} : KRp (κ := κ) K F [] [] := ⟨rfl, .nil⟩
theorem pr_dK : PR X T Δ (.Dict [] [] pos) (.own (.dk [])) := .of pe_dnewK fun fm L O σ H Q W tk s q p hp => q.new s hp ⟨[], upd_same, .nil⟩
theorem pr_dT : PR X T Δ (.Dict [] [] pos) (.own (.dt [])) := .of pe_dnewT fun fm L O σ H Q W tk s q p hp => q.new s hp ⟨[], upd_same, .nil⟩

/-! ### together -/
theorem pd_catT {xs ys : List Dt} (ha : PD X T Δ a (.tup xs)) (hb : PD X T Δ b (.tup ys)) (hz : xs.length + ys.length ≤ sizeLine := by first | decide | exact sz_le (by simp)) : PD X T Δ (.BinOp a .Add b pos) (.tup (xs ++ ys)) :=
  pd_op op_catA ha hb fun fm L O σ H Δ Q W x y tk s r1 r2 q => by
    obtain ⟨a1, vs, e1, h1, ra⟩ := r1.tup_of
    obtain ⟨a2, ws, e2, h2, rb⟩ := r2.tup_of
    subst e1 e2
    refine ⟨a1, a2, vs, ws, rfl, rfl, .of (s.out h1), .of (s.out h2), by rw [ra.len, rb.len]; exact hz, fun z => ?_, fun _ z => ?_, fun _ _ p hp => q.tup s (ra.append rb) hp⟩
    · subst z
      have : xs = [] := List.eq_nil_of_length_eq_zero (by have := ra.len; simpa using this.symm)
      subst this
      exact q _ H Gr.refl s r2
    · subst z
      have : ys = [] := List.eq_nil_of_length_eq_zero (by have := rb.len; simpa using this.symm)
      subst this
      rw [List.append_nil] at q
      exact q _ H Gr.refl s r1
theorem pr_catL {xs ys : List Dt} (ha : PD X T Δ a (.lst xs)) (hb : PD X T Δ b (.lst ys)) (hz : xs.length + ys.length ≤ sizeLine := by first | decide | exact sz_le (by simp)) : PR X T Δ (.BinOp a .Add b pos) (.own (.lst (xs ++ ys))) :=
  pd_op op_cat ha hb fun fm L O σ H Δ Q W x y tk s r1 r2 q => by
    obtain ⟨a1, vs, e1, h1, ra⟩ := r1.lst_of
    obtain ⟨a2, ws, e2, h2, rb⟩ := r2.lst_of
    exact ⟨a1, a2, vs, ws, e1, e2, s.out h1, s.out h2, by rw [ra.len, rb.len]; exact hz, fun p hp => q.lst s (ra.append rb) hp⟩
theorem RpA.rep {F : Hp} {vs : List V} (h : RpA K F vs ds) : ∀ k : Nat, RpA K F (List.replicate k vs).flatten (List.replicate k ds).flatten
  | 0 => .nil
  | k + 1 => by
    rw [List.replicate_succ, List.replicate_succ, List.flatten_cons, List.flatten_cons]
    exact h.append (RpA.rep h k)
theorem pr_repL {xs : List Dt} {k : Int} (ha : PD X T Δ a (.lst xs)) (hb : PD X T Δ b (.int k)) (h1 : -(2 ^ 63) ≤ k) (h2 : k < 2 ^ 63) (hz : xs.length * k.toNat ≤ sizeLine) : PR X T Δ (.BinOp a .Mult b pos) (.own (.lst (List.replicate k.toNat xs).flatten)) :=
  pd_op op_rep ha hb fun fm L O σ H Δ Q W x y tk s r1 r2 q => by
    obtain ⟨a1, vs, e1, g1, ra⟩ := r1.lst_of
    exact ⟨a1, k, vs, e1, r2.int_of, s.out g1, h1, h2, by rw [ra.len]; exact hz, fun p hp => q.lst s (ra.rep k.toNat) hp⟩

/-! ### subscripts -/
def dIx : Dt → Int → Option Dt
  | .lst ds, i => atI ds i
  | .tup ds, i => atI ds i
  | .str z, i => (atI z i).map fun c => .str [c]
  | .scr ns, i => (atI ns i).map .int
  | _, _ => none
def IxOk : Dt → Prop
  | .str z => z.length ≤ sizeLine
  | _ => True
theorem RpA.atI {F : Hp} {vs : List V} {i : Int} (h : RpA K F vs ds) (e : L2.atI ds i = some d) : ∃ v, L2.atI vs i = some v ∧ Rp K F v d := by
  unfold L2.atI at e ⊢
  rw [h.len]
  cases hj : ixN ds.length i with
  | none => rw [hj] at e; cases e
  | some j =>
    rw [hj] at e
    exact h.get e
theorem pd_ix {i : Int} (ha : PD X T Δ a d1) (hb : PD X T Δ b (.int i)) (h : dIx d1 i = some d) (hok : IxOk d1 := by first | exact trivial | decide) (hs : PlainIx b := by exact fun _ _ => rfl) : PD X T Δ (.Subscript a b pos) d :=
  .of (pe_ix ix_seq canE_ok canE_ok hs) (two (ta := canE X a) (tb := canE X b) ha hb fun fm L O σ H Δ Q W x y tk s r1 r2 q => by
    have ey := r2.int_of
    subst ey
    cases r1 with
    | tup g hl hi =>
      obtain ⟨v, e, rv⟩ := RpA.atI ⟨hl, hi⟩ h
      exact .inr (.inl ⟨_, _, i, v, rfl, rfl, .of (s.out g), e, q v H Gr.refl s rv⟩)
    | lst g hl hi =>
      obtain ⟨v, e, rv⟩ := RpA.atI ⟨hl, hi⟩ h
      exact .inl ⟨_, _, i, v, rfl, rfl, .of (s.out g), e, q v H Gr.refl s rv⟩
    | str z =>
      have h : (L2.atI z i).map (fun c => Dt.str [c]) = some d := h
      cases hz : L2.atI z i with
      | none => rw [hz] at h; cases h
      | some c =>
        rw [hz] at h
        cases h
        have hok : z.length ≤ sizeLine := hok
        exact .inr (.inr ⟨_, i, c, rfl, rfl, by simpa [Str.length] using hok, by simpa using hz, q _ H Gr.refl s (.str [c])⟩)
    | @scr a ns g =>
      have h : (L2.atI ns i).map Dt.int = some d := h
      cases hz : L2.atI ns i with
      | none => rw [hz] at h; cases h
      | some n =>
        rw [hz] at h
        cases h
        refine .inl ⟨_, _, i, .int n, rfl, rfl, (mask_le H O).scr g, ?_, q _ H Gr.refl s (.int n)⟩
        unfold L2.atI at hz ⊢
        rw [List.length_map]
        cases hj : ixN ns.length i with
        | none => rw [hj] at hz; cases hz
        | some j =>
          rw [hj] at hz
          show (ns.map V.int)[j]? = _
          rw [List.getElem?_map, show ns[j]? = some n from hz] <;> rfl
    | _ => cases h)
/-! ### slices -/
structure POD (X : Cx) (T : List Addr) (Δ : DEnv) (e : Option Expr) (o : Option Int) : Prop where
  ex : ∃ t : TO, PO X e t ∧ ∀ (fm : Fm) (L : Lk) (O : List Addr) (σ : St) (H : Hp) (Q : Option Int → Hp → Prop) (W : WX), Takes X W → Sta X.K T fm L O σ H Δ → (∀ H2, Gr T H H2 → Sta X.K T fm L O σ H2 Δ → Q o H2) → t σ H Q
theorem pod_none : POD X T Δ none none := ⟨_, po_none, fun fm L O σ H Q W tk s q => q H Gr.refl s⟩
theorem pod_some {i : Int} (h : PD X T Δ e (.int i)) : POD X T Δ (some e) (some i) :=
  ⟨_, po_some canE_ok, fun fm L O σ H Q W tk s q => h.run fm L O σ H _ W tk s fun x H1 g1 s1 r1 => ⟨i, r1.int_of, q H1 g1 s1⟩⟩
def cutD {α : Type} (xs : List α) (lo hi : Option Int) : List α := (xs.drop (HT.sIx xs.length 0 lo)).take (HT.sIx xs.length xs.length hi - HT.sIx xs.length 0 lo)
theorem RpA.cut {F : Hp} {vs : List V} {lo hi : Option Int} (h : RpA K F vs ds) : RpA K F (cutV vs lo hi) (cutD ds lo hi) := by
  unfold cutV cutD
  rw [h.len]
  exact (h.drop _).take _
theorem slice_all {r : V → Option Int → Option Int → Hp → VK → Prop} {lo hi : Option Expr} {l u : Option Int} {p2 : Pos} {res : Res} (hr : SlR X r) (he : PD X T Δ e d) (hl : POD X T Δ lo l) (hu : POD X T Δ hi u)
    (k : ∀ (fm : Fm) (L : Lk) (O : List Addr) (σ : St) (H : Hp) (Q : VK) (W : WX) (x : V), Sta X.K T fm L O σ H Δ → Rp X.K (mask H O) x d → RK X.K T fm L O σ H Δ Q W res → r x l u H Q) : PR X T Δ (.Subscript e (.Slice lo hi none p2) pos) res := by
  obtain ⟨tl, hl1, hl2⟩ := hl.ex
  obtain ⟨tu, hu1, hu2⟩ := hu.ex
  exact .of (pe_slice hr canE_ok hl1 hu1) fun fm L O σ H Q W tk s q => he.run fm L O σ H _ W tk s fun x H1 g1 s1 r1 => hl2 fm L O σ H1 _ W tk s1 fun H2 g2 s2 => hu2 fm L O σ H2 _ W tk s2 fun H3 g3 s3 =>
    k fm L O σ H3 Q W x s3 (r1.mono ((g2.trans g3).mask s3.tO)) (q.back s s3 ((g1.trans g2).trans g3))
theorem pr_sliceL {lo hi : Option Expr} {l u : Option Int} {p2 : Pos} (he : PD X T Δ e (.lst ds)) (hl : POD X T Δ lo l) (hu : POD X T Δ hi u) : PR X T Δ (.Subscript e (.Slice lo hi none p2) pos) (.own (.lst (cutD ds l u))) :=
  slice_all sl_list he hl hu fun fm L O σ H Q W x s r q => by
    obtain ⟨a1, vs, e1, h1, ra⟩ := r.lst_of
    exact ⟨a1, vs, e1, .of (s.out h1), fun p hp => q.lst s ra.cut hp⟩
theorem cutV_whole {xs : List V} {lo hi : Option Int} (h : HT.sIx xs.length 0 lo = 0 ∧ HT.sIx xs.length xs.length hi = xs.length) : cutV xs lo hi = xs := by
  unfold cutV
  rw [h.1, h.2]
  simp
theorem pd_sliceT {lo hi : Option Expr} {l u : Option Int} {p2 : Pos} (he : PD X T Δ e (.tup ds)) (hl : POD X T Δ lo l) (hu : POD X T Δ hi u) : PD X T Δ (.Subscript e (.Slice lo hi none p2) pos) (.tup (cutD ds l u)) :=
  slice_all sl_tupA he hl hu fun fm L O σ H Q W x s r q => by
    obtain ⟨a1, vs, e1, h1, ra⟩ := r.tup_of
    subst e1
    refine ⟨a1, vs, rfl, .of (s.out h1), fun hw => ?_, fun _ p hp => q.tup s ra.cut hp⟩
    refine q _ H Gr.refl s (.tup (xs := vs) h1 ?_ ?_)
    · have := (ra.cut (lo := l) (hi := u)).len
      rwa [cutV_whole hw] at this
    · have := (ra.cut (lo := l) (hi := u)).at_
      rwa [cutV_whole hw] at this
theorem cutS_list (z : List Nat) (lo hi : Option Int) : cutS ⟨z.toArray⟩ lo hi = ⟨(cutD z lo hi).toArray⟩ := by
  unfold cutS cutD
  simp [Str.length]
theorem pd_sliceS {lo hi : Option Expr} {l u : Option Int} {p2 : Pos} {z : List Nat} (he : PD X T Δ e (.str z)) (hl : POD X T Δ lo l) (hu : POD X T Δ hi u) (hz : z.length ≤ sizeLine) : PD X T Δ (.Subscript e (.Slice lo hi none p2) pos) (.str (cutD z l u)) :=
  slice_all sl_str he hl hu fun fm L O σ H Q W x s r q =>
    ⟨_, r.str_of, by simpa [Str.length] using hz, by rw [cutS_list]; exact q _ H Gr.refl s (.str _)⟩
/-- xs[::-1] -/
theorem pr_revL {k : Nat} {p1 p2 p3 : Pos} (he : PD X T Δ e (.lst ds)) : PR X T Δ (.Subscript e (.Slice none none (some (.UnaryOp .USub (.Constant (.int 1) k p1) p2)) p3) pos) (.own (.lst ds.reverse)) :=
  .of (pe_revL canE_ok) fun fm L O σ H Q W tk s q => he.run fm L O σ H _ W tk s fun x H1 g1 s1 r1 => by
    obtain ⟨a1, vs, e1, h1, ra⟩ := r1.lst_of
    exact ⟨a1, vs, e1, .of (s1.out h1), fun p hp => (q.back s s1 g1).lst s1 ra.reverse hp⟩

/-! ### comparisons -/
def scalD : Dt → Dt → Bool
  | .non, .non => true | .bl _, .bl _ => true | .int _, .int _ => true | .str _, .str _ => true | _, _ => false
def sEq : Dt → Dt → Bool
  | .non, .non => true | .bl a, .bl b => a == b | .int a, .int b => decide (a = b) | .str a, .str b => decide (a = b) | _, _ => false
theorem pd_eqI {i j : Int} (ha : PD X T Δ a (.int i)) (hb : PD X T Δ b (.int j)) : PD X T Δ (.Compare a [.Eq] [b] pos) (.bl (decide (i = j))) :=
  pd_cmp op_eq (nomark _) ha hb fun fm L O σ H Δ Q W x y tk s r1 r2 q => by
    rw [r1.int_of, r2.int_of]
    refine ⟨rfl, q _ H Gr.refl s ?_⟩
    rw [dec_int, Bool.beq_eq_decide_eq]
    exact .bl _
theorem opd_eqI {i j : Int} : OpD X T rEq (.int i) (.int j) (.val (.bl (decide (i = j)))) := fun fm L O σ H Δ Q W x y tk s r1 r2 q => by
    rw [r1.int_of, r2.int_of]
    refine ⟨rfl, q _ H Gr.refl s ?_⟩
    rw [dec_int, Bool.beq_eq_decide_eq]
    exact .bl _
theorem opd_neI {i j : Int} : OpD X T rNe (.int i) (.int j) (.val (.bl (!decide (i = j)))) := fun fm L O σ H Δ Q W x y tk s r1 r2 q => by
    rw [r1.int_of, r2.int_of]
    refine ⟨rfl, q _ H Gr.refl s ?_⟩
    rw [dec_int, Bool.beq_eq_decide_eq]
    exact .bl _
theorem decS {i j : List Nat} : decide (V.str ⟨i.toArray⟩ = V.str ⟨j.toArray⟩) = decide (i = j) := by
  by_cases h : i = j
  · subst h; simp
  · have : ¬ (V.str ⟨i.toArray⟩ = V.str ⟨j.toArray⟩) := fun e => by
      injection e with e
      injection e with e
      exact h (by simpa using congrArg Array.toList e)
    rw [decide_eq_false h, decide_eq_false this]
theorem opd_eqS {i j : List Nat} : OpD X T rEq (.str i) (.str j) (.val (.bl (decide (i = j)))) := fun fm L O σ H Δ Q W x y tk s r1 r2 q => by
    rw [r1.str_of, r2.str_of]
    refine ⟨rfl, q _ H Gr.refl s ?_⟩
    rw [decS]
    exact .bl _
theorem opd_neS {i j : List Nat} : OpD X T rNe (.str i) (.str j) (.val (.bl (!decide (i = j)))) := fun fm L O σ H Δ Q W x y tk s r1 r2 q => by
    rw [r1.str_of, r2.str_of]
    refine ⟨rfl, q _ H Gr.refl s ?_⟩
    rw [decS]
    exact .bl _
theorem opd_eqB {i j : Bool} : OpD X T rEq (.bl i) (.bl j) (.val (.bl (i == j))) := fun fm L O σ H Δ Q W x y tk s r1 r2 q => by
    rw [r1.bl_of, r2.bl_of]
    refine ⟨rfl, q _ H Gr.refl s ?_⟩
    rw [dec_bl]
    exact .bl _
theorem opd_neB {i j : Bool} : OpD X T rNe (.bl i) (.bl j) (.val (.bl (i != j))) := fun fm L O σ H Δ Q W x y tk s r1 r2 q => by
    rw [r1.bl_of, r2.bl_of]
    refine ⟨rfl, q _ H Gr.refl s ?_⟩
    rw [dec_bl]
    exact .bl _
def isNon : Dt → Bool
  | .non => true | _ => false
/-- data of which None is told apart -/
def NonOk : Dt → Prop
  | .opq _ => False | _ => True
theorem Rp.isNon {F : Hp} {v : V} (h : Rp K F v d) (ok : NonOk d) : decide (v = .non) = isNon d := by
  cases h <;> first | rfl | exact ok.elim
theorem opd_isN (ok : NonOk d1) : OpD X T (fun x y H Q => y = .non ∧ Q (.bl (decide (x = .non))) H) d1 .non (.val (.bl (isNon d1))) := fun fm L O σ H Δ Q W x y tk s r1 r2 q =>
  ⟨r2.non_of, by rw [r1.isNon ok]; exact q _ H Gr.refl s (.bl _)⟩
theorem opd_notN (ok : NonOk d1) : OpD X T (fun x y H Q => y = .non ∧ Q (.bl (!decide (x = .non))) H) d1 .non (.val (.bl (!isNon d1))) := fun fm L O σ H Δ Q W x y tk s r1 r2 q =>
  ⟨r2.non_of, by rw [r1.isNon ok]; exact q _ H Gr.refl s (.bl _)⟩
/-- ints -/
theorem opd_cmpI {g : Int → Int → Bool} {i j : Int} : OpD X T (rI0 fun i j => .bl (g i j)) (.int i) (.int j) (.val (.bl (g i j))) := opd_I0 fun _ => .bl _

/-! ### data at any depth, == -/
/-- data of ints, truths, texts, None, tuples and lists, no deeper than n -/
def gd : Nat → Dt → Bool
  | _, .non => true
  | _, .bl _ => true
  | _, .int _ => true
  | _, .str s => s.all fun c => decide (c < 1000)
  | n + 1, .tup a => a.all (gd n)
  | n + 1, .lst a => a.all (gd n)
  | _, _ => false
def toPy : Nat → Dt → PyData
  | _, .non => .none
  | _, .bl b => .bool b
  | _, .int i => .int i
  | _, .str s => .str ⟨s.toArray⟩
  | n + 1, .tup a => .tuple (a.map (toPy n))
  | n + 1, .lst a => .list (a.map (toPy n))
  | _, _ => .none
end
theorem dpAll_of {K : PySem.W.Frag} {H : Hp} {f : Dt → PyData} : ∀ {xs : List V} {ds : List Dt}, xs.length = ds.length → (∀ (i : Nat) (x : V) (d : Dt), xs[i]? = some x → ds[i]? = some d → Dp K H x (f d)) → DpAll K H xs (ds.map f)
  | [], [], _, _ => .nil
  | [], _ :: _, h, _ => by simp at h
  | _ :: _, [], h, _ => by simp at h
  | x :: xs, d :: ds, h, k => .cons (k 0 x d rfl rfl) (dpAll_of (by simpa using h) fun i y e a b => k (i + 1) y e (by simpa using a) (by simpa using b))
theorem Rp.dp {K : PySem.W.Frag} {F H : Hp} (le : Le F H) : ∀ (n : Nat) {v : V} {d : Dt}, Rp K F v d → gd n d = true → Dp K H v (toPy n d) := by
  intro n
  induction n with
  | zero =>
    intro v d h g
    cases h with
    | non => exact .non
    | bl b => exact .bl b
    | int i => exact .int i
    | str s => exact .str _
    | _ => cases g
  | succ n ih =>
    intro v d h g
    cases h with
    | non => exact .non
    | bl b => exact .bl b
    | int i => exact .int i
    | str s => exact .str _
    | tup h hl hi =>
      have g : _ := List.all_eq_true.mp (show List.all _ (gd n) = true from g)
      exact .tup (.of (le.f _ _ h rfl)) (dpAll_of hl fun i x d a b => ih (hi i x d a b) (g d (List.mem_of_getElem? b)))
    | lst h hl hi =>
      have g : _ := List.all_eq_true.mp (show List.all _ (gd n) = true from g)
      exact .lst (.of (le.f _ _ h rfl)) (dpAll_of hl fun i x d a b => ih (hi i x d a b) (g d (List.mem_of_getElem? b)))
    | _ => cases g
theorem canAll : ∀ {ds : List PyData}, (∀ d ∈ ds, PyData.canLay0 d = true) → PyData.canLayAll0 ds = true
  | [], _ => rfl
  | d :: r, h => by
    show (PyData.canLay0 d && PyData.canLayAll0 r) = true
    rw [h d List.mem_cons_self, canAll fun e he => h e (List.mem_cons_of_mem _ he)]
    rfl
theorem depAll {n : Nat} : ∀ {ds : List PyData}, (∀ d ∈ ds, PyData.depth d ≤ n) → PyData.depthAll ds ≤ n
  | [], _ => Nat.zero_le _
  | d :: r, h => by
    show max (PyData.depth d) (PyData.depthAll r) ≤ n
    exact Nat.max_le.mpr ⟨h d List.mem_cons_self, depAll fun e he => h e (List.mem_cons_of_mem _ he)⟩
theorem strOk_of {s : List Nat} (h : (s.all fun c => decide (c < 1000)) = true) : PyData.strOk ⟨s.toArray⟩ = true := by
  show (s.toArray.all fun c => decide (c < 0x110000)) = true
  rw [List.all_toArray, List.all_eq_true]
  rw [List.all_eq_true] at h
  intro c hc
  have := of_decide_eq_true (h c hc)
  exact decide_eq_true (by omega)
theorem gd_lay : ∀ (n : Nat) {d : Dt}, gd n d = true → PyData.canLay0 (toPy n d) = true ∧ PyData.depth (toPy n d) ≤ n := by
  intro n
  induction n with
  | zero =>
    intro d g
    cases d with
    | str s => exact ⟨strOk_of g, Nat.le_refl _⟩
    | non => exact ⟨rfl, Nat.le_refl _⟩
    | bl b => exact ⟨rfl, Nat.le_refl _⟩
    | int b => exact ⟨rfl, Nat.le_refl _⟩
    | _ => cases g
  | succ n ih =>
    intro d g
    cases d with
    | str s => exact ⟨strOk_of g, Nat.zero_le _⟩
    | non => exact ⟨rfl, Nat.zero_le _⟩
    | bl b => exact ⟨rfl, Nat.zero_le _⟩
    | int b => exact ⟨rfl, Nat.zero_le _⟩
    | tup a =>
      have g : _ := List.all_eq_true.mp (show List.all _ (gd n) = true from g)
      refine ⟨canAll fun e he => ?_, Nat.succ_le_succ (depAll fun e he => ?_)⟩ <;> (obtain ⟨d, hd, rfl⟩ := List.mem_map.mp he)
      · exact (ih (g d hd)).1
      · exact (ih (g d hd)).2
    | lst a =>
      have g : _ := List.all_eq_true.mp (show List.all _ (gd n) = true from g)
      refine ⟨canAll fun e he => ?_, Nat.succ_le_succ (depAll fun e he => ?_)⟩ <;> (obtain ⟨d, hd, rfl⟩ := List.mem_map.mp he)
      · exact (ih (g d hd)).1
      · exact (ih (g d hd)).2
    | _ => cases g
theorem gd_shaped {n : Nat} (hn : n ≤ 64) {d : Dt} (g : gd n d = true) : SeqAt.shaped (toPy n d) = true := by
  obtain ⟨a, b⟩ := gd_lay n g
  show (PyData.canLay0 _ && decide (PyData.depth _ ≤ 64)) = true
  rw [a, decide_eq_true (Nat.le_trans b hn)]
  rfl
/-- == of two data -/
def deq (n : Nat) (d e : Dt) : Bool := PyData.eqv (toPy n d) (toPy n e)
theorem eqvAll_map {n : Nat} : ∀ {a b : List Dt}, PyData.eqvAll (a.map (toPy n)) (b.map (toPy n)) = (decide (a.length = b.length) && (a.zip b).all fun p => deq n p.1 p.2)
  | [], [] => rfl
  | [], _ :: _ => rfl
  | _ :: _, [] => rfl
  | x :: a, y :: b => by
    show (deq n x y && PyData.eqvAll (a.map (toPy n)) (b.map (toPy n))) = _
    rw [eqvAll_map (a := a) (b := b), List.zip_cons_cons, List.all_cons, List.length_cons, List.length_cons]
    have e : decide (a.length + 1 = b.length + 1) = decide (a.length = b.length) := by simp
    rw [e]
    cases deq n x y <;> cases decide (a.length = b.length) <;> rfl
theorem deq_refl : ∀ (n : Nat) {d : Dt}, gd n d = true → deq n d d = true := by
  intro n
  induction n with
  | zero =>
    intro d g
    cases d with
    | str s => show ((⟨s.toArray⟩ : Str) == ⟨s.toArray⟩) = true; simp
    | non => rfl
    | bl b => show (b == b) = true; simp
    | int b => show (b == b) = true; simp
    | _ => cases g
  | succ n ih =>
    have all : ∀ a : List Dt, (∀ d ∈ a, gd n d = true) → PyData.eqvAll (a.map (toPy n)) (a.map (toPy n)) = true := fun a h => by
      rw [eqvAll_map, decide_eq_true rfl, Bool.true_and, List.all_eq_true]
      intro p hp
      have hz : ∀ (a : List Dt) (p : Dt × Dt), p ∈ a.zip a → p.1 = p.2 ∧ p.1 ∈ a := by
        intro a
        induction a with
        | nil => intro p hp; simp at hp
        | cons x r ih =>
          intro p hp
          rw [List.zip_cons_cons] at hp
          rcases List.mem_cons.mp hp with z | z
          · subst z; exact ⟨rfl, List.mem_cons_self⟩
          · exact ⟨(ih p z).1, List.mem_cons_of_mem _ (ih p z).2⟩
      obtain ⟨e, m⟩ := hz a p hp
      rw [← e]
      exact ih (h p.1 m)
    intro d g
    cases d with
    | str s => show ((⟨s.toArray⟩ : Str) == ⟨s.toArray⟩) = true; simp
    | non => rfl
    | bl b => show (b == b) = true; simp
    | int b => show (b == b) = true; simp
    | tup a => exact all a (List.all_eq_true.mp (show List.all a (gd n) = true from g))
    | lst a => exact all a (List.all_eq_true.mp (show List.all a (gd n) = true from g))
    | _ => cases g
section
variable {X : Cx} {T : List Addr} {Δ : DEnv} {d1 d2 : Dt}
theorem opd_eqD {n : Nat} (hn : n ≤ 64) (g1 : gd n d1 = true) (g2 : gd n d2 = true) : OpD X T (rEqD X.K) d1 d2 (.val (.bl (deq n d1 d2))) := fun fm L O σ H Δ Q W x y tk s r1 r2 q =>
  ⟨toPy n d1, toPy n d2, r1.dp (mask_le H O) n g1, r2.dp (mask_le H O) n g2, gd_shaped hn g1, gd_shaped hn g2, q _ H Gr.refl s (.bl _)⟩
theorem opd_neD {n : Nat} (hn : n ≤ 64) (g1 : gd n d1 = true) (g2 : gd n d2 = true) : OpD X T (rNeD X.K) d1 d2 (.val (.bl (!deq n d1 d2))) := fun fm L O σ H Δ Q W x y tk s r1 r2 q =>
  ⟨toPy n d1, toPy n d2, r1.dp (mask_le H O) n g1, r2.dp (mask_le H O) n g2, gd_shaped hn g1, gd_shaped hn g2, q _ H Gr.refl s (.bl _)⟩
end
end DL

set_option Elab.async false
set_option linter.all false
set_option maxRecDepth 100000
set_option maxHeartbeats 2000000
/-! DL4: calls of built-ins and of defs; statements. -/
namespace DL
open PySem PySem.Spec L2

section
variable {X : Cx} {T : List Addr} {Δ : DEnv} {e a b c : Expr} {es : List Expr} {d d1 d2 d3 : Dt} {ds : List Dt} {r : Res} {pos p : Pos}
variable {K : PySem.W.Frag} {fm : Fm} {L : Lk} {O : List Addr} {σ : St} {H H' : Hp} {Q : VK} {W : WX}

/-! ### built-ins by name -/
def CallD (X : Cx) (T : List Addr) (rl : List V → Hp → VK → Prop) (ds : List Dt) (res : Res) : Prop := ∀ (fm : Fm) (L : Lk) (O : List Addr) (σ : St) (H : Hp) (Δ : DEnv) (Q : VK) (W : WX) (vs : List V), Takes X W → Sta X.K T fm L O σ H Δ → RpA X.K (mask H O) vs ds → RK X.K T fm L O σ H Δ Q W res → rl vs H Q
theorem pr_callB {x : Str} {id : String} {rl : List V → Hp → VK → Prop} (hc : CallR X (.builtin id) rl) (hr : CallD X T rl ds r) (hm : X.mg x = none) (hv : bootBuiltins x = some (.builtin id)) (ha : PAD X T Δ (e :: es) ds) (hg : Gl X x := by rfl) (hn : x ≠ "__name__" := by decide) (hdb : (x == ("__debug__" : Str)) = false := by decide)
    (he : starEach (e :: es) X.env = (false, eval e X.env) :: starEach es X.env := by rfl) (hpl : (backTo pos (starEach es X.env)).any (·.1) = false := by rfl) : PR X T Δ (.Call (.Name x p) (e :: es) [] pos) r :=
  .of (pe_callB hc hg hm hv canA_ok hn hdb he hpl) fun fm L O σ H Q W tk s q => ha.run fm L O σ H _ W tk s fun vs H1 g1 s1 r1 => hr fm L O σ H1 Δ Q W vs tk s1 r1 (q.back s s1 g1)
theorem pr_callT {x : Str} {id : String} {rl : List V → Hp → VK → Prop} (hc : CallR X (.type id) rl) (hr : CallD X T rl ds r) (hm : X.mg x = none) (hv : bootBuiltins x = some (.type id)) (ha : PAD X T Δ (e :: es) ds) (hg : Gl X x := by rfl) (hn : x ≠ "__name__" := by decide) (hdb : (x == ("__debug__" : Str)) = false := by decide)
    (he : starEach (e :: es) X.env = (false, eval e X.env) :: starEach es X.env := by rfl) (hpl : (backTo pos (starEach es X.env)).any (·.1) = false := by rfl) : PR X T Δ (.Call (.Name x p) (e :: es) [] pos) r :=
  .of (pe_callTy hc hg hm hv canA_ok hn hdb he hpl) fun fm L O σ H Q W tk s q => ha.run fm L O σ H _ W tk s fun vs H1 g1 s1 r1 => hr fm L O σ H1 Δ Q W vs tk s1 r1 (q.back s s1 g1)
theorem RpA.one {F : Hp} {vs : List V} (h : RpA K F vs [d]) : ∃ v, vs = [v] ∧ Rp K F v d := by
  obtain ⟨v, t, rfl, h1, h2⟩ := h.uncons
  rw [h2.unnil]
  exact ⟨v, rfl, h1⟩
theorem RpA.two {F : Hp} {vs : List V} (h : RpA K F vs [d1, d2]) : ∃ v w, vs = [v, w] ∧ Rp K F v d1 ∧ Rp K F w d2 := by
  obtain ⟨v, t, rfl, h1, h2⟩ := h.uncons
  obtain ⟨w, rfl, h3⟩ := h2.one
  exact ⟨v, w, rfl, h1, h3⟩
def dLen : Dt → Option Nat
  | .lst ds => some ds.length
  | .tup ds => some ds.length
  | .str z => some z.length
  | .scr ns => some ns.length
  | _ => none
theorem cd_len {n : Nat} (h : dLen d = some n) (ok : IxOk d) : CallD X T (fun xs H Q => ∃ x n, xs = [x] ∧ LenV X.K x H n ∧ Q (.int n) H) [d] (.val (.int n)) := fun fm L O σ H Δ Q W vs tk s ra q => by
  obtain ⟨v, rfl, rv⟩ := ra.one
  refine ⟨v, n, rfl, ?_, q _ H Gr.refl s (.int _)⟩
  cases rv with
  | tup g hl hi => cases h; exact .inr ⟨_, .of (s.out g), hl.symm⟩
  | lst g hl hi => cases h; exact .inl ⟨_, .of (s.out g), hl.symm⟩
  | str z => cases h; exact ⟨by have ok : z.length ≤ sizeLine := ok; simpa [Str.length] using ok, by simp [Str.length]⟩
  | scr g => cases h; exact .inl ⟨_, (mask_le H O).scr g, by simp⟩
  | _ => cases h
theorem pd_len {n : Nat} (hm : X.mg "len" = none) (ha : PD X T Δ e d) (h : dLen d = some n) (ok : IxOk d := by first | exact trivial | decide) (hg : Gl X "len" := by rfl)
    (he : starEach [e] X.env = (false, eval e X.env) :: starEach [] X.env := by rfl) : PD X T Δ (.Call (.Name "len" p) [e] [] pos) (.int n) :=
  pr_callB call_len (cd_len h ok) hm PySem.boot_len (pad_cons ha pad_nil he) hg (he := he)
/-- list(xs) -/
def dSeq : Dt → Option (List Dt)
  | .lst ds => some ds
  | .tup ds => some ds
  | _ => none
theorem cd_list {xs : List Dt} (h : dSeq d = some xs) : CallD X T (fun xs H Q => ∃ p ys, xs = [.ref p] ∧ (SqL X.K H p ys ∨ SqT X.K H p ys) ∧ ∀ l, H l = none → Q (.ref l) (upd H l (.lst ys))) [d] (.own (.lst xs)) := fun fm L O σ H Δ Q W vs tk s ra q => by
  obtain ⟨v, rfl, rv⟩ := ra.one
  cases rv with
  | tup g hl hi => cases h; exact ⟨_, _, rfl, .inr (.of (s.out g)), fun l hl2 => q.lst s ⟨hl, hi⟩ hl2⟩
  | lst g hl hi => cases h; exact ⟨_, _, rfl, .inl (.of (s.out g)), fun l hl2 => q.lst s ⟨hl, hi⟩ hl2⟩
  | _ => cases h
theorem pr_list {xs : List Dt} (hm : X.mg "list" = none) (ha : PD X T Δ e d) (h : dSeq d = some xs) (hg : Gl X "list" := by rfl)
    (he : starEach [e] X.env = (false, eval e X.env) :: starEach [] X.env := by rfl) : PR X T Δ (.Call (.Name "list" p) [e] [] pos) (.own (.lst xs)) :=
  pr_callT call_list_of (cd_list h) hm (by decide +kernel) (pad_cons ha pad_nil he) hg (he := he)
/-- int(n), int(flag) -/
def dInt : Dt → Option Int
  | .int i => some i
  | .bl b => some (if b then 1 else 0)
  | _ => none
theorem pd_intOf {i : Int} (hm : X.mg "int" = none) (ha : PD X T Δ e d) (h : dInt d = some i) (hg : Gl X "int" := by rfl)
    (he : starEach [e] X.env = (false, eval e X.env) :: starEach [] X.env := by rfl) : PD X T Δ (.Call (.Name "int" p) [e] [] pos) (.int i) :=
  pr_callT call_int1 (fun fm L O σ H Δ Q W vs tk s ra q => by
    obtain ⟨v, rfl, rv⟩ := ra.one
    cases rv with
    | int j => cases h; exact .inl ⟨_, rfl, q _ H Gr.refl s (.int _)⟩
    | bl k => cases h; exact .inr ⟨_, rfl, q _ H Gr.refl s (.int _)⟩
    | _ => cases h) hm (by decide +kernel) (pad_cons ha pad_nil he) hg (he := he)
/-- isinstance(x, T), T built-in -/
def tyD : Dt → Option String
  | .non => some "NoneType" | .bl _ => some "bool" | .int _ => some "int" | .str _ => some "str" | .tup _ => some "tuple" | .lst _ => some "list" | .dk _ _ => some "dict" | .dt _ _ => some "dict" | _ => none
theorem Rp.tyX {F H : Hp} {v : V} {n : String} (le : ∀ a u, F a = some u → H a = some u) (h : Rp K F v d) (hn : tyD d = some n) (hd : ∀ a o kvs, H a ≠ some (.frz o (.dT kvs))) : TyX K H v (.type n) := by
  cases h with
  | non => cases hn; exact .base .non
  | bl b => cases hn; exact .base (.bl b)
  | int i => cases hn; exact .base (.int i)
  | str s => cases hn; exact .base (.str _)
  | tup g _ _ => cases hn; exact .base (.tup (le _ _ g))
  | lst g _ _ => cases hn; exact .base (.lst (le _ _ g))
  | dk g _ _ _ =>
    cases hn
    rcases g with g | ⟨o, g⟩
    · exact .base (.dK (le _ _ g))
    · exact .fDict (le _ _ g)
  | dt g _ _ _ =>
    cases hn
    rcases g with g | ⟨o, g⟩
    · exact .base (.dT (le _ _ g))
    · exact absurd (le _ _ g) (hd _ _ _)
  | _ => cases hn
def noDt : Dt → Bool
  | .dt _ _ => false | _ => true
theorem Rp.tyX' {F H : Hp} {v : V} {n : String} (le : ∀ a u, F a = some u → H a = some u) (h : Rp K F v d) (hn : tyD d = some n) (hd : noDt d = true) : TyX K H v (.type n) := by
  cases h with
  | non => cases hn; exact .base .non
  | bl b => cases hn; exact .base (.bl b)
  | int i => cases hn; exact .base (.int i)
  | str s => cases hn; exact .base (.str _)
  | tup g _ _ => cases hn; exact .base (.tup (le _ _ g))
  | lst g _ _ => cases hn; exact .base (.lst (le _ _ g))
  | dk g _ _ _ =>
    cases hn
    rcases g with g | ⟨o, g⟩
    · exact .base (.dK (le _ _ g))
    · exact .fDict (le _ _ g)
  | dt g _ _ _ => cases hd
  | _ => cases hn
theorem pd_isi {n m : String} {k : Bool} (hm : X.mg "isinstance" = none) (ha : PD X T Δ a d) (hb : PD X T Δ b (.ty m)) (hn : tyD d = some n) (hk : kitB n m = some k) (hd : noDt d = true := by rfl) (hg : Gl X "isinstance" := by rfl)
    (he : starEach [a, b] X.env = (false, eval a X.env) :: starEach [b] X.env := by rfl) (he2 : starEach [b] X.env = (false, eval b X.env) :: starEach [] X.env := by rfl) (hpl : (backTo pos (starEach [b] X.env)).any (·.1) = false := by rfl) :
    PD X T Δ (.Call (.Name "isinstance" p) [a, b] [] pos) (.bl k) :=
  pr_callB call_isi (fun fm L O σ H Δ Q W vs tk s ra q => by
    obtain ⟨v, w, rfl, rv, rw'⟩ := ra.two
    refine ⟨v, w, .type n, .type m, k, rfl, ?_, rv.tyX' (fun a u e => s.out e) hn hd, kit_ty hk, q _ H Gr.refl s (.bl _)⟩
    rw [rw'.ty_of]
    exact .ty m) hm (by decide +kernel) (pad_cons ha (pad_cons hb pad_nil he2) he) hg (he := he) (hpl := hpl)

/-! ### texts -/
theorem join_list (l : List (List Nat)) : Txt.join ⟨#[]⟩ (l.map fun z => (⟨z.toArray⟩ : Str)) = ⟨l.flatten.toArray⟩ := by
  have e0 := PySem.StrLaws.glued_eq_join (⟨#[]⟩ : Str) (l.map fun z => (⟨z.toArray⟩ : Str))
  refine Eq.trans e0 ?_
  clear e0
  induction l with
  | nil => rfl
  | cons x r ih =>
    cases r with
    | nil => simp [Str.join]
    | cons y t =>
      show (⟨x.toArray⟩ : Str) ++ ⟨#[]⟩ ++ Str.join ⟨#[]⟩ (((y :: t) : List (List Nat)).map fun z => (⟨z.toArray⟩ : Str)) = _
      rw [ih]
      show (⟨x.toArray ++ #[] ++ (y :: t).flatten.toArray⟩ : Str) = _
      simp
/-- ''.join(xs) -/
theorem pd_join {zs : List (List Nat)} {j : Nat} {p0 apos : Pos} {x : Str} (hx : x = ⟨#[]⟩) (ha : PD X T Δ e (.lst (zs.map Dt.str))) (hz : zs.flatten.length ≤ 16777216)
    (hs : starEach [e] X.env = [(false, eval e X.env)] := by rfl) (hbase : attributeBase (.Constant (.str x) j p0) "join" X.env (eval (.Constant (.str x) j p0) X.env) = eval (.Constant (.str x) j p0) X.env := by rfl) (hline : (apos.endLine == pos.line) = true := by rfl) :
    PD X T Δ (.Call (.Attribute (.Constant (.str x) j p0) "join" apos) [e] [] pos) (.str zs.flatten) := by
  subst hx
  refine .of (pe_join (pe_str (x := ⟨#[]⟩)) canE_ok hs hbase hline) fun fm L O σ H Q W tk s q => ?_
  refine ⟨⟨_, rfl⟩, ha.run fm L O σ H _ W tk s fun v H1 g1 s1 r1 => ?_⟩
  obtain ⟨a, xs, rfl, g, ra⟩ := r1.lst_of
  have exs : xs = (zs.map fun z => (⟨z.toArray⟩ : Str)).map V.str := by
    refine List.ext_getElem? fun i => ?_
    cases hi : zs[i]? with
    | none =>
      have h1 : (zs.map Dt.str)[i]? = none := by rw [List.getElem?_map, hi]; rfl
      have h2 : xs[i]? = none := by
        rw [List.getElem?_eq_none_iff] at h1 ⊢
        rw [ra.len]; exact h1
      rw [h2, List.getElem?_map, List.getElem?_map, hi]; rfl
    | some z =>
      obtain ⟨v, e1, rv⟩ := ra.get (d := .str z) (by rw [List.getElem?_map, hi]; rfl)
      rw [e1, rv.str_of, List.getElem?_map, List.getElem?_map, hi]; rfl
  subst exs
  refine ⟨⟨#[]⟩, a, _, rfl, rfl, .inl (.of (s1.out g)), ?_, ?_⟩
  · show _ + _ * 0 ≤ _
    rw [Nat.mul_zero, Nat.add_zero, List.map_map]
    have : (List.map ((fun x => x.length) ∘ fun z => (⟨z.toArray⟩ : Str)) zs).sum = zs.flatten.length := by
      rw [List.length_flatten]
      congr 1
    rw [this]; exact hz
  · rw [join_list]
    exact q _ H1 g1 s1 (.str _)
/-- x.startswith(y) -/
def startsD (x y : List Nat) : Bool := decide (x.take y.length = y)
theorem starts_list (x y : List Nat) : Txt.startswith ⟨x.toArray⟩ ⟨y.toArray⟩ = startsD x y := by
  unfold Txt.startswith Builtin.Str.subAt startsD
  rw [Bool.eq_iff_iff]
  simp only [Str.length, List.size_toArray, Nat.zero_add, Bool.and_eq_true, decide_eq_true_eq, List.extract_toArray, beq_iff_eq, Array.mk.injEq, List.extract_eq_drop_take, List.drop_zero, Nat.sub_zero]
  constructor
  · exact fun h => by simpa using h.2
  · intro h
    refine ⟨?_, by simpa using h⟩
    have := congrArg List.length h
    rw [List.length_take] at this
    omega
theorem pd_starts {x y : List Nat} {apos : Pos} (ha : PD X T Δ a (.str x)) (hb : PD X T Δ b (.str y)) (hs : starEach [b] X.env = [(false, eval b X.env)] := by rfl) (hbase : attributeBase a "startswith" X.env (eval a X.env) = eval a X.env := by rfl) (hline : (apos.endLine == pos.line) = true := by rfl) :
    PD X T Δ (.Call (.Attribute a "startswith" apos) [b] [] pos) (.bl (startsD x y)) :=
  .of (pe_m1 F.slot_str_startswith F.type_str_startswith mt_startswith canE_ok canE_ok hs hbase hline) fun fm L O σ H Q W tk s q => ha.run fm L O σ H _ W tk s fun v H1 g1 s1 r1 => ⟨⟨_, r1.str_of⟩, hb.run fm L O σ H1 _ W tk s1 fun w H2 g2 s2 r2 =>
    ⟨_, _, r1.str_of, (by have e := r2.str_of; subst e; rfl), by rw [starts_list]; exact q _ H2 (g1.trans g2) s2 (.bl _)⟩⟩

/-! ### tests, and, or, not -/
theorem ptd_val {k : Bool} (h : PD X T Δ e (.bl k)) (he : ∀ whole, isTrue e X.env whole = (do let v ← whole; standAt e.pos; holding [v] (truthy v)) := by intro _; rfl) : PTD X T Δ e k :=
  .of (pt_val canE_ok he) fun fm L O σ H Q W tk s q => h.run fm L O σ H _ W tk s fun v H2 g2 s2 r2 => ⟨k, r2.bl_of, q H2 g2 s2⟩
theorem ptd_not {k : Bool} (h : PTD X T Δ a k) : PTD X T Δ (.UnaryOp .Not a pos) (!k) :=
  .of (pt_not canT_ok) fun fm L O σ H Q W tk s q => h.run fm L O σ H _ W tk s q
theorem pwd_and1 {k : Bool} (h : PTD X T Δ a k) : PWD X T Δ (.BoolOp .And [a] pos) k := .of (pw_and1 canT_ok) fun fm L O σ H Q W tk s q => h.run fm L O σ H _ W tk s q
theorem pwd_or1 {k : Bool} (h : PTD X T Δ a k) : PWD X T Δ (.BoolOp .Or [a] pos) k := .of (pw_or1 canT_ok) fun fm L O σ H Q W tk s q => h.run fm L O σ H _ W tk s q
theorem pwd_and {k l : Bool} (h1 : PTD X T Δ a k) (h2 : k = true → PWD X T Δ (.BoolOp .And (b :: es) pos) l) : PWD X T Δ (.BoolOp .And (a :: b :: es) pos) (k && l) :=
  .of (pw_and canT_ok canW_ok) fun fm L O σ H Q W tk s q => h1.run fm L O σ H _ W tk s fun H2 g2 s2 => by
    cases k with
    | true =>
      show canW X _ σ H2 Q
      exact (h2 rfl).run fm L O σ H2 Q W tk s2 fun H3 g3 s3 => q H3 (g2.trans g3) s3
    | false => exact q H2 g2 s2
theorem pwd_or {k l : Bool} (h1 : PTD X T Δ a k) (h2 : k = false → PWD X T Δ (.BoolOp .Or (b :: es) pos) l) : PWD X T Δ (.BoolOp .Or (a :: b :: es) pos) (k || l) :=
  .of (pw_or canT_ok canW_ok) fun fm L O σ H Q W tk s q => h1.run fm L O σ H _ W tk s fun H2 g2 s2 => by
    cases k with
    | true => exact q H2 g2 s2
    | false =>
      show canW X _ σ H2 Q
      exact (h2 rfl).run fm L O σ H2 Q W tk s2 fun H3 g3 s3 => q H3 (g2.trans g3) s3
/-- as values -/
theorem pd_one {op} (h : PD X T Δ a d) : PD X T Δ (.BoolOp op [a] pos) d := .of (pe_one canE_ok) fun fm L O σ H Q W tk s q => h.run fm L O σ H _ W tk s q
theorem pd_and {k l : Bool} (h1 : PD X T Δ a (.bl k)) (h2 : k = true → PD X T Δ (.BoolOp .And (b :: es) pos) (.bl l)) : PD X T Δ (.BoolOp .And (a :: b :: es) pos) (.bl (k && l)) :=
  .of (pe_and canE_ok canE_ok) fun fm L O σ H Q W tk s q => h1.run fm L O σ H _ W tk s fun v H2 g2 s2 r2 => ⟨k, r2.bl_of, by
    cases k with
    | true =>
      show canE X _ σ H2 Q
      exact (h2 rfl).run fm L O σ H2 Q W tk s2 fun v H3 g3 s3 r3 => q v H3 (g2.trans g3) s3 r3
    | false => exact q _ H2 g2 s2 (.bl false)⟩
theorem pd_or {k l : Bool} (h1 : PD X T Δ a (.bl k)) (h2 : k = false → PD X T Δ (.BoolOp .Or (b :: es) pos) (.bl l)) : PD X T Δ (.BoolOp .Or (a :: b :: es) pos) (.bl (k || l)) :=
  .of (pe_or canE_ok canE_ok) fun fm L O σ H Q W tk s q => h1.run fm L O σ H _ W tk s fun v H2 g2 s2 r2 => ⟨k, r2.bl_of, by
    cases k with
    | true => exact q _ H2 g2 s2 (.bl true)
    | false =>
      show canE X _ σ H2 Q
      exact (h2 rfl).run fm L O σ H2 Q W tk s2 fun v H3 g3 s3 r3 => q v H3 (g2.trans g3) s3 r3⟩
theorem pd_not {k : Bool} (h1 : PD X T Δ a (.bl k)) : PD X T Δ (.UnaryOp .Not a pos) (.bl (!k)) :=
  .of (pe_not canE_ok) fun fm L O σ H Q W tk s q => h1.run fm L O σ H _ W tk s fun v H2 g2 s2 r2 => ⟨k, r2.bl_of, q _ H2 g2 s2 (.bl _)⟩
theorem pd_if {k : Bool} (h : PTD X T Δ c k) (h1 : k = true → PD X T Δ a d) (h2 : k = false → PD X T Δ b d) : PD X T Δ (.IfExp c a b pos) d :=
  .of (pe_ifExp canT_ok canE_ok canE_ok) fun fm L O σ H Q W tk s q => h.run fm L O σ H _ W tk s fun H2 g2 s2 => by
    cases k with
    | true =>
      show canE X _ σ H2 Q
      exact (h1 rfl).run fm L O σ H2 Q W tk s2 fun v H3 g3 s3 r3 => q v H3 (g2.trans g3) s3 r3
    | false =>
      show canE X _ σ H2 Q
      exact (h2 rfl).run fm L O σ H2 Q W tk s2 fun v H3 g3 s3 r3 => q v H3 (g2.trans g3) s3 r3

/-! ### a def's promise -/
def TabOk (T : List Addr) (H : Hp) : Prop := ∀ P ∈ T, GxR.TabG H P
structure Pre (T O : List Addr) (H : Hp) : Prop where
  tO : ∀ P ∈ T, P ∈ O
  tab : TabOk T H
  dom : ∀ l ∈ O, Held H l
/-- what is wanted of a call's end -/
def CK (K : PySem.W.Frag) (T O : List Addr) (H : Hp) (Q : VK) (E : XK) : Res → Prop
  | .val d => ∀ v H2, Gr T H H2 → TabOk T H2 → Rp K (mask H2 O) v d → Q v H2
  | .own o => ∀ p H2, H p = none → Gr T H H2 → TabOk T H2 → OwAt K (mask H2 (p :: O)) H2 p o → Q (.ref p) H2
  | .exc C => ∀ H2, Gr T H H2 → TabOk T H2 → E (.ref C) none H2
def spF (T : List Addr) (K : PySem.W.Frag) (n : Nat) (Fn : List Dt → Res → Prop) : Sp := fun vs H Q E => vs.length = n ∧ ∃ O ds r, Pre T O H ∧ RpA K (mask H O) vs ds ∧ Fn ds r ∧ CK K T O H Q E r
theorem spF.len {n : Nat} {Fn : List Dt → Res → Prop} (vs : List V) (H : Hp) (Q : VK) (E : XK) (h : spF T K n Fn vs H Q E) : vs.length = n := h.1
theorem Sta.own_hide {p : Addr} (s : Sta K T fm L O σ H Δ) (hp : H p = none) (g : Gr T H H') (ht : TabOk T H') (hp' : Held H' p) : Sta K T fm L (p :: O) σ H' Δ := by
  have s1 := s.gr g ht
  obtain ⟨a1, a2, a3, a4⟩ := s.new_apart hp
  have le : Le (mask H O) (mask H' (p :: O)) := Le.of_same fun a o e => by
    obtain ⟨e1, e2⟩ := mask_some e
    rw [mask_out fun z => ?_]
    · exact g a o (fun z => e2 (s.tO a z)) e1
    · rcases List.mem_cons.mp z with z | z
      · rw [z, hp] at e1; cases e1
      · exact e2 z
  refine ⟨fun P hP => List.mem_cons_of_mem _ (s.tO P hP), ht, fun l hl => ?_, fun l hl => List.mem_cons_of_mem _ (s.o0 l hl), s.b0, s.d0, fun q hq => (s.pin q hq).mono le, s1.keep, s1.lock, s.len, fun i e he => ?_, s.own, s.sep⟩
  · rcases List.mem_cons.mp hl with z | z
    · rw [z]; exact hp'
    · exact s1.dom l z
  · obtain ⟨v, h1, h2⟩ := s.slot i e he
    refine ⟨v, h1, ?_⟩
    cases e with
    | imm d => exact Rp.mono le h2
    | own l br o =>
      obtain ⟨q1, q2, q3⟩ := h2
      exact ⟨q1, List.mem_cons_of_mem _ q2, q3.mono le fun u hu => g l u (s.own i l br o he).1 hu⟩
theorem CK.of (s : Sta X.K T fm L O σ H Δ) (q : RK X.K T fm L O σ H Δ Q W r) : CK X.K T O H Q (WE W σ) r := by
  cases r with
  | val d => exact fun v H2 g t rv => q v H2 g (s.gr g t) rv
  | own o => exact fun p H2 hp g t ow => q p H2 hp g (s.own_hide hp g t ow.held) ow
  | exc C => exact fun H2 g t => q H2 g (s.gr g t)
theorem Sta.pre (s : Sta K T fm L O σ H Δ) : Pre T O H := ⟨s.tO, s.tab, s.dom⟩
abbrev FnD (P : Program) (w : World) (K : PySem.W.Frag) (mg : Str → Option Value) (base : Heap) (T : List Addr) (k : Nat) (f : Addr) (fd : FuncData) (ps : List Str) (Fn : List Dt → Res → Prop) : Prop := FnOk P w K mg base (L2.CX P w) k f fd ps (spF T K ps.length Fn)
theorem pr_call {x : Str} {f : Addr} {fd : FuncData} {ps : List Str} {k : Nat} {Fn : List Dt → Res → Prop} (G : FnD X.prog X.w X.K X.mg X.base T k f fd ps Fn) (hr : Room k X.A) (hm : X.mg x = some (.ref f)) (hk : PySem.W.keepIn X.K (.ref f) = true) (hb : Binds X.K fd ps [])
    (ha : PAD X T Δ (e :: es) ds) (hF : Fn ds r) (hlen : ds.length = ps.length := by rfl) (hg : Gl X x := by rfl) (hdb : (x == ("__debug__" : Str)) = false := by decide) (he : starEach (e :: es) X.env = (false, eval e X.env) :: starEach es X.env := by rfl) (hpl : (backTo pos (starEach es X.env)).any (·.1) = false := by rfl) :
    PR X T Δ (.Call (.Name x p) (e :: es) [] pos) r :=
  ⟨fun fm L O σ H Q W tk s q pins sh I => (pe_callS (E := WE W) G hr hg hm hk hb (fun σ => passAt tk σ) canA_ok hdb he hpl).run pins sh σ H Q I (ha.run fm L O σ H _ W tk s fun vs H1 g1 s1 r1 =>
    ⟨by rw [r1.len]; exact hlen, O, ds, r, s1.pre, r1, hF, CK.of s1 (q.back s s1 g1)⟩)⟩
end
end DL

set_option Elab.async false
set_option linter.all false
set_option maxRecDepth 100000
set_option maxHeartbeats 2000000
/-! DL5: statements, loops, comprehensions, a def by its body. -/
namespace DL
open PySem PySem.Spec L2

/-- what is wanted behind a statement, in data -/
structure DE where
  nx : DEnv → Prop := fun _ => False
  rt : DEnv → Dt → Prop := fun _ _ => False
  ro : DEnv → Ow → Prop := fun _ _ => False
  bk : DEnv → Prop := fun _ => False
  ct : DEnv → Prop := fun _ => False
  ex : DEnv → Addr → Prop := fun _ _ => False
structure Emb (K : PySem.W.Frag) (T : List Addr) (fm : Fm) (L : Lk) (P : DE) (D : Ends) (W : WX) : Prop where
  nx : ∀ (O : List Addr) (σ : St) (H : Hp) (Δ : DEnv), P.nx Δ → Sta K T fm L O σ H Δ → D.nx σ H
  rt : ∀ (O : List Addr) (σ : St) (H : Hp) (Δ : DEnv) (v : V) (d : Dt), P.rt Δ d → Sta K T fm L O σ H Δ → Rp K (mask H O) v d → D.rt v H
  ro : ∀ (O : List Addr) (σ : St) (H : Hp) (Δ : DEnv) (l : Addr) (o : Ow), P.ro Δ o → Sta K T fm L O σ H Δ → l ∈ O → fm.H0 l = none → OwAt K (mask H O) H l o → D.rt (.ref l) H
  bk : ∀ (O : List Addr) (σ : St) (H : Hp) (Δ : DEnv), P.bk Δ → Sta K T fm L O σ H Δ → D.bk σ H
  ct : ∀ (O : List Addr) (σ : St) (H : Hp) (Δ : DEnv), P.ct Δ → Sta K T fm L O σ H Δ → D.ct σ H
  ex : ∀ (O : List Addr) (σ : St) (H : Hp) (Δ : DEnv) (C : Addr), P.ex Δ C → Sta K T fm L O σ H Δ → W (.ref C) none σ H
structure PSsD (X : Cx) (T : List Addr) (Δ : DEnv) (sts : List Stmt) (P : DE) : Prop where
  run : ∀ (fm : Fm) (L : Lk) (O : List Addr) (σ : St) (H : Hp) (D : Ends) (W : WX), Takes X W → Sta X.K T fm L O σ H Δ → Emb X.K T fm L P D W → canSs X sts D σ H
structure PSD (X : Cx) (T : List Addr) (Δ : DEnv) (st : Stmt) (P : DE) : Prop where
  run : ∀ (fm : Fm) (L : Lk) (O : List Addr) (σ : St) (H : Hp) (D : Ends) (W : WX), Takes X W → Sta X.K T fm L O σ H Δ → Emb X.K T fm L P D W → canS X st D σ H

section
variable {X : Cx} {T : List Addr} {Δ : DEnv} {e a b c : Expr} {es : List Expr} {d d1 d2 d3 : Dt} {ds : List Dt} {r : Res} {pos p : Pos} {st : Stmt} {rest sts : List Stmt} {P : DE}
variable {K : PySem.W.Frag} {fm : Fm} {L : Lk} {O : List Addr} {σ : St} {H H' : Hp} {Q : VK} {W : WX} {D : Ends}

theorem PSsD.of {t : TS} (h : PSs X sts t) (k : ∀ (fm : Fm) (L : Lk) (O : List Addr) (σ : St) (H : Hp) (D : Ends) (W : WX), Takes X W → Sta X.K T fm L O σ H Δ → Emb X.K T fm L P D W → t D σ H) : PSsD X T Δ sts P :=
  ⟨fun fm L O σ H D W tk s em pins sh I => h.run pins sh σ H D I (k fm L O σ H D W tk s em)⟩
theorem PSD.of {t : TS} (h : PS X st t) (k : ∀ (fm : Fm) (L : Lk) (O : List Addr) (σ : St) (H : Hp) (D : Ends) (W : WX), Takes X W → Sta X.K T fm L O σ H Δ → Emb X.K T fm L P D W → t D σ H) : PSD X T Δ st P :=
  ⟨fun fm L O σ H D W tk s em pins sh I => h.run pins sh σ H D I (k fm L O σ H D W tk s em)⟩
/-- the rest as what follows -/
abbrev DE.then (P : DE) (X : Cx) (T : List Addr) (rest : List Stmt) : DE := { P with nx := fun Δ' => PSsD X T Δ' rest P }
theorem Emb.then (em : Emb X.K T fm L P D W) (tk : Takes X W) : Emb X.K T fm L (P.then X T rest) { D with nx := canSs X rest D } W :=
  ⟨fun O σ H Δ h s => h.run fm L O σ H D W tk s em, em.rt, em.ro, em.bk, em.ct, em.ex⟩
theorem psd_nil (h : P.nx Δ) : PSsD X T Δ [] P := .of pss_nil fun fm L O σ H D W tk s em => em.nx O σ H Δ h s
theorem psd_cons (h : PSD X T Δ st (P.then X T rest)) : PSsD X T Δ (st :: rest) P :=
  .of (pss_cons canS_ok canSs_ok) fun fm L O σ H D W tk s em => h.run fm L O σ H { D with nx := canSs X rest D } W tk s (em.then tk)
theorem psd_one (h : PSD X T Δ st P) : PSsD X T Δ [st] P := .of (pss_one canS_ok) fun fm L O σ H D W tk s em => h.run fm L O σ H D W tk s em
/-- weaker ends -/
theorem PSsD.imp {P' : DE} (h : PSsD X T Δ sts P') (nx : ∀ Δ, P'.nx Δ → P.nx Δ := by intro _ h; exact h) (rt : ∀ Δ d, P'.rt Δ d → P.rt Δ d := by intro _ _ h; exact h) (ro : ∀ Δ o, P'.ro Δ o → P.ro Δ o := by intro _ _ h; exact h) (bk : ∀ Δ, P'.bk Δ → P.bk Δ := by intro _ h; exact h)
    (ct : ∀ Δ, P'.ct Δ → P.ct Δ := by intro _ h; exact h) (ex : ∀ Δ C, P'.ex Δ C → P.ex Δ C := by intro _ _ h; exact h) : PSsD X T Δ sts P :=
  ⟨fun fm L O σ H D W tk s em => h.run fm L O σ H D W tk s ⟨fun O σ H Δ h => em.nx O σ H Δ (nx Δ h), fun O σ H Δ v d h => em.rt O σ H Δ v d (rt Δ d h), fun O σ H Δ l o h => em.ro O σ H Δ l o (ro Δ o h), fun O σ H Δ h => em.bk O σ H Δ (bk Δ h), fun O σ H Δ h => em.ct O σ H Δ (ct Δ h), fun O σ H Δ C h => em.ex O σ H Δ C (ex Δ C h)⟩⟩

/-! ### targets -/
def canG (X : Cx) (tg : Expr) : TG := fun v σ H Q => ∀ pins s u, Inv X pins σ H s → RelV v u → wpAny (model X.prog X.w) X.A (assign tg X.env u) (fun _ s' => ∃ σ' H', Inv X pins σ' H' s' ∧ Q σ' H') X.xe s
theorem canG_ok {tg : Expr} : PG X tg (canG X tg) := ⟨fun pins s _ _ _ u _ I r h => h pins s u I r⟩
/-- js: the slots that are stored -/
structure But (js : List Nat) (σ σ' : St) : Prop where
  len : σ'.length = σ.length
  at_ : ∀ i, i ∉ js → σ'[i]? = σ[i]?
structure GD (X : Cx) (T : List Addr) (tg : Expr) (d : Dt) (js : List Nat) (Δ Δ' : DEnv) : Prop where
  run : ∀ (fm : Fm) (L : Lk) (O : List Addr) (σ : St) (H : Hp) (v : V) (Q : St → Hp → Prop), Sta X.K T fm L O σ H Δ → Rp X.K (mask H O) v d → (∀ σ', Sta X.K T fm L O σ' H Δ' → But js σ σ' → Q σ' H) → canG X tg v σ H Q
theorem gd_name (i : Nat) {x : Str} (hN : X.N.Nodup) (hl : i < Δ.length := by exact of_decide_eq_true rfl) (hi : X.N[i]? = some x := by rfl) (hx : Loc X.env.scope x := by first | exact Or.inl rfl | exact Or.inr rfl) (hf : X.fn x = true ∨ X.env.scope.names.lookup x = some .local := by first | exact .inl rfl | exact .inr rfl) : GD X T (.Name x pos) d [i] Δ (Δ.set i (some (.imm d))) :=
  ⟨fun fm L O σ H v Q s r k pins sh u I ru => (pg_name hN hi hx hf).run pins sh σ H v u Q I ru (k _ (s.set hl r) ⟨List.length_set, fun j hj => getset_ne fun z => hj (by rw [z]; exact List.mem_singleton.mpr rfl)⟩)⟩
structure GDs (X : Cx) (T : List Addr) (ts : List Expr) (ds : List Dt) (js : List Nat) (Δ Δ' : DEnv) : Prop where
  ex : ∃ t, PGs X ts t ∧ ∀ (fm : Fm) (L : Lk) (O : List Addr) (σ : St) (H : Hp) (vs : List V) (Q : St → Hp → Prop), Sta X.K T fm L O σ H Δ → RpA X.K (mask H O) vs ds → (∀ σ', Sta X.K T fm L O σ' H Δ' → But js σ σ' → Q σ' H) → t vs σ H Q
theorem gds_nil : GDs X T [] [] [] Δ Δ := ⟨_, pgs_nil, fun fm L O σ H vs Q s r k => ⟨r.unnil, k σ s ⟨rfl, fun _ _ => rfl⟩⟩⟩
theorem gds_cons {tg : Expr} {ts : List Expr} {js ks : List Nat} {Δ1 Δ2 : DEnv} (h1 : GD X T tg d js Δ Δ1) (h2 : GDs X T ts ds ks Δ1 Δ2) (h3 : (assignEach (tg :: ts) X.env).map (·.2) = assign tg X.env :: (assignEach ts X.env).map (·.2) := by rfl) : GDs X T (tg :: ts) (d :: ds) (js ++ ks) Δ Δ2 := by
  obtain ⟨t, ht, hk⟩ := h2.ex
  refine ⟨_, pgs_cons canG_ok ht h3, fun fm L O σ H vs Q s r k => ?_⟩
  obtain ⟨v, rr, rfl, r1, r2⟩ := r.uncons
  exact ⟨v, rr, rfl, h1.run fm L O σ H v _ s r1 fun σ1 s1 n1 => hk fm L O σ1 H rr Q s1 r2 fun σ2 s2 n2 => k σ2 s2 ⟨n2.len.trans n1.len, fun i hi => (n2.at_ i fun z => hi (List.mem_append_right _ z)).trans (n1.at_ i fun z => hi (List.mem_append_left _ z))⟩⟩
theorem gd_tup {ts : List Expr} {js : List Nat} {Δ' : DEnv} {kk : Nat} (hc : X.calm = true) (h : GDs X T ts ds js Δ Δ') (hn : (assignEach ts X.env).length = ds.length := by rfl) (hst : (assignEach ts X.env).findIdx? (·.1) = none := by rfl) : GD X T (.Tuple ts kk pos) (.tup ds) js Δ Δ' := by
  obtain ⟨t, ht, hk⟩ := h.ex
  refine ⟨fun fm L O σ H v Q s r k pins sh u I ru => (pg_tup hc ht hn hst).run pins sh σ H v u Q I ru ?_⟩
  obtain ⟨a, xs, rfl, g, ra⟩ := r.tup_of
  exact ⟨a, xs, rfl, .of (s.out g), ra.len, hk fm L O σ H xs Q s ra k⟩

/-! ### small statements -/
/-- target = e -/
theorem psd_asg {tg : Expr} {js : List Nat} {Δ' : DEnv} (he : PD X T Δ e d) (hg : GD X T tg d js Δ Δ') (h : P.nx Δ') (hs : swapsWithSole [tg] e pos.line X.env = pure false := by rfl) (hw : swappedStores [tg] e X.env = pure none := by rfl) (h1 : (assignEach [tg] X.env).map (·.2) = [assign tg X.env] := by rfl) : PSD X T Δ (.Assign [tg] e pos) P :=
  .of (ps_asg canE_ok canG_ok hs hw h1) fun fm L O σ H D W tk s em => he.run fm L O σ H _ W tk s fun v H1 g1 s1 r1 => hg.run fm L O σ H1 v _ s1 r1 fun σ' s2 _ => em.nx O σ' H1 Δ' h s2
theorem psd_set (i : Nat) {x : Str} {pos' : Pos} (hN : X.N.Nodup) (he : PD X T Δ e d) (h : P.nx (Δ.set i (some (.imm d)))) (hl : i < Δ.length := by exact of_decide_eq_true rfl) (hi : X.N[i]? = some x := by rfl) (hx : Loc X.env.scope x := by first | exact Or.inl rfl | exact Or.inr rfl)
    (hs : swapsWith e (some (.Name x pos')) pos.line X.env = pure false := by rfl) (hf : X.fn x = true ∨ X.env.scope.names.lookup x = some .local := by first | exact .inl rfl | exact .inr rfl) : PSD X T Δ (.Assign [.Name x pos'] e pos) P :=
  .of (ps_set hN hi hx canE_ok hs hf) fun fm L O σ H D W tk s em => he.run fm L O σ H _ W tk s fun v H1 g1 s1 r1 => em.nx O _ H1 _ h (s1.set hl r1)
/-- x = a new thing of one's own -/
theorem Sta.own_set {i : Nat} {p : Addr} {o : Ow} (s0 : Sta K T fm L O σ H Δ) (hp : H p = none) (s : Sta K T fm L (p :: O) σ H' Δ) (hi : i < Δ.length) (ow : OwAt K (mask H' (p :: O)) H' p o) : Sta K T fm L (p :: O) (σ.set i (some (.ref p))) H' (Δ.set i (some (.own p false o))) := by
  obtain ⟨a1, a2, a3, a4⟩ := s0.new_apart hp
  refine ⟨s.tO, s.tab, s.dom, s.o0, s.b0, s.d0, s.pin, s.keep, s.lock, by rw [List.length_set, List.length_set, s.len], fun j e he => ?_, fun j l br o' he => ?_, fun j k l br br' o1 o2 h1 h2 => ?_⟩
  · by_cases hj : i = j
    · subst hj
      rw [List.getElem?_set_self hi] at he
      cases he
      exact ⟨.ref p, by rw [List.getElem?_set_self (by rw [s.len]; exact hi)], rfl, List.mem_cons_self, ow⟩
    · rw [getset_ne hj] at he ⊢
      exact s.slot j e he
  · by_cases hj : i = j
    · subst hj
      rw [List.getElem?_set_self hi] at he
      cases he
      refine ⟨a3, fun q hq z => ?_, s0.fresh0 hp⟩
      have := s0.lock q hq
      rw [z, hp] at this; cases this
    · rw [getset_ne hj] at he
      exact s.own j l br o' he
  · by_cases hj : i = j
    · subst hj
      rw [List.getElem?_set_self hi] at h1
      cases h1
      by_cases hk : i = k
      · exact hk
      · rw [getset_ne hk] at h2
        exact absurd rfl (a4 k p br' o2 h2)
    · rw [getset_ne hj] at h1
      by_cases hk : i = k
      · subst hk
        rw [List.getElem?_set_self hi] at h2
        cases h2
        exact absurd rfl (a4 j p br o1 h1)
      · rw [getset_ne hk] at h2
        exact s.sep j k l br br' o1 o2 h1 h2
theorem psd_setO (i : Nat) {x : Str} {pos' : Pos} {o : Ow} (hN : X.N.Nodup) (he : PR X T Δ e (.own o)) (h : ∀ l, P.nx (Δ.set i (some (.own l false o)))) (hl : i < Δ.length := by exact of_decide_eq_true rfl) (hi : X.N[i]? = some x := by rfl) (hx : Loc X.env.scope x := by first | exact Or.inl rfl | exact Or.inr rfl)
    (hs : swapsWith e (some (.Name x pos')) pos.line X.env = pure false := by rfl) (hf : X.fn x = true ∨ X.env.scope.names.lookup x = some .local := by first | exact .inl rfl | exact .inr rfl) : PSD X T Δ (.Assign [.Name x pos'] e pos) P :=
  .of (ps_set hN hi hx canE_ok hs hf) fun fm L O σ H D W tk s em => he.run fm L O σ H _ W tk s fun p H1 hp g1 s1 ow => em.nx (p :: O) _ H1 _ (h p) (s.own_set hp s1 hl ow)
/-- an expression alone -/
theorem psd_expr (he : PD X T Δ e d) (h : P.nx Δ) (hs : swapsWith e none pos.line X.env = pure false := by rfl) : PSD X T Δ (.Expr e pos) P :=
  .of (ps_expr canE_ok hs) fun fm L O σ H D W tk s em => he.run fm L O σ H _ W tk s fun v H1 g1 s1 r1 => em.nx O σ H1 Δ h s1
theorem psd_pass (h : P.nx Δ) : PSD X T Δ (.Pass pos) P := .of ps_pass fun fm L O σ H D W tk s em => em.nx O σ H Δ h s
theorem psd_ret (he : PD X T Δ e d) (h : P.rt Δ d) : PSD X T Δ (.Return (some e) pos) P :=
  .of (ps_ret canE_ok) fun fm L O σ H D W tk s em => he.run fm L O σ H _ W tk s fun v H1 g1 s1 r1 => em.rt O σ H1 Δ v d h s1 r1
theorem psd_retO {o : Ow} (he : PR X T Δ e (.own o)) (h : P.ro Δ o) : PSD X T Δ (.Return (some e) pos) P :=
  .of (ps_ret canE_ok) fun fm L O σ H D W tk s em => he.run fm L O σ H _ W tk s fun p H1 hp g1 s1 ow => em.ro (p :: O) σ H1 Δ p o h s1 List.mem_cons_self (s.fresh0 hp) ow
/-- return x, x one's own -/
theorem psd_retV (i : Nat) {x : Str} {pos' : Pos} {l : Addr} {o : Ow} (hi : Δ[i]? = some (some (.own l false o))) (h : P.ro Δ o) (hN : X.N[i]? = some x := by rfl) (hv : Vis X.env.scope x := by first | exact Or.inl rfl | exact Or.inr (Or.inl rfl) | exact Or.inr (Or.inr rfl))
    (hd : (x == ("__debug__" : Str)) = false := by decide) (hcd : (x == ("__classdict__" : Str)) = false := by decide) : PSD X T Δ (.Return (some (.Name x pos')) pos) P :=
  .of (ps_ret (pe_var hN hv hd hcd)) fun fm L O σ H D W tk s em => by
    obtain ⟨h1, h2, h3⟩ := s.ow hi
    exact ⟨.ref l, h1, em.ro O σ H Δ l o h s h2 (s.own i l false o hi).2.2 h3⟩
theorem psd_if {k : Bool} {A B : List Stmt} (hc : PTD X T Δ c k) (h1 : k = true → PSsD X T Δ A P) (h2 : k = false → PSsD X T Δ B P) : PSD X T Δ (.If c A B pos) P :=
  .of (ps_if canT_ok canSs_ok canSs_ok) fun fm L O σ H D W tk s em => hc.run fm L O σ H _ W tk s fun H1 g1 s1 => by
    cases k with
    | true =>
      show canSs X A D σ H1
      exact (h1 rfl).run fm L O σ H1 D W tk s1 em
    | false =>
      show canSs X B D σ H1
      exact (h2 rfl).run fm L O σ H1 D W tk s1 em
/-- one's own is frozen -/
theorem psd_freeze (i : Nat) {l : Addr} {o : Ow} (hi : Δ[i]? = some (some (.own l false o))) (h : PSsD X T (Δ.set i (some (.imm o.d))) sts P) : PSsD X T Δ sts P :=
  ⟨fun fm L O σ H D W tk s em => by
    obtain ⟨h1, h2, h3⟩ := s.ow hi
    exact h.run fm L _ σ H D W tk (s.freeze hi fun F hF le => h3.rp (mask_le H O) (fun _ => trivial) hF le) em⟩
/-- an exception comes of an expression -/
theorem psd_exprX {C : Addr} (he : PR X T Δ e (.exc C)) (h : P.ex Δ C) (hs : swapsWith e none pos.line X.env = pure false := by rfl) : PSD X T Δ (.Expr e pos) P :=
  .of (ps_expr canE_ok hs) fun fm L O σ H D W tk s em => he.run fm L O σ H _ W tk s fun H1 g1 s1 => em.ex O σ H1 Δ C h s1

/-! ### a list of one's own -/
theorem slot_ref (i : Nat) {x : Str} {pos' : Pos} (hN : X.N[i]? = some x := by rfl) (hv : Vis X.env.scope x := by first | exact Or.inl rfl | exact Or.inr (Or.inl rfl) | exact Or.inr (Or.inr rfl)) (hd : (x == ("__debug__" : Str)) = false := by decide) (hcd : (x == ("__classdict__" : Str)) = false := by decide) : PE X (.Name x pos') (tVar i) := pe_var hN hv hd hcd
/-- xs.append(e) -/
theorem psd_append (i : Nat) {x : Str} {p1 apos : Pos} {l : Addr} {br : Bool} {xs : List Dt} (hi : Δ[i]? = some (some (.own l br (.lst xs)))) (he : PD X T Δ e d) (hz : xs.length < sizeLine) (h : P.nx (Δ.set i (some (.own l br (.lst (xs ++ [d])))))) (hN : X.N[i]? = some x := by rfl) (hv : Vis X.env.scope x := by first | exact Or.inl rfl | exact Or.inr (Or.inl rfl) | exact Or.inr (Or.inr rfl))
    (hd : (x == ("__debug__" : Str)) = false := by decide) (hcd : (x == ("__classdict__" : Str)) = false := by decide) (hs : starEach [e] X.env = (false, eval e X.env) :: starEach [] X.env := by rfl)
    (hbase : attributeBase (.Name x p1) "append" X.env (eval (.Name x p1) X.env) = eval (.Name x p1) X.env := by rfl)
    (hfew : ((backTo pos (starEach [e] X.env)).all (fun x => !x.1) && (backToKw pos (keywordEach [] X.env)).all (fun x => x.1.isSome) && decide (([e] : List Expr).length + ([] : List Keyword).length + (if ([] : List Keyword).isEmpty then 0 else 1) < 30)) = true := by rfl)
    (hline : (apos.endLine == pos.line) = true := by rfl) (hplain : (backTo pos (starEach [] X.env)).any (·.1) = false := by rfl) {pos2 : Pos} (hsw : swapsWith (.Call (.Attribute (.Name x p1) "append" apos) [e] [] pos) none pos2.line X.env = pure false := by rfl) :
    PSD X T Δ (.Expr (.Call (.Attribute (.Name x p1) "append" apos) [e] [] pos) pos2) P :=
  .of (ps_expr (pe_bm PySem.F.plainAttrs_list PySem.F.slot_list_append PySem.F.type_list_append mt_append (slot_ref i hN hv hd hcd) (pa_cons canE_ok pa_nil hs) hbase hfew hline hs hplain) hsw) fun fm L O σ H D W tk s em => by
    obtain ⟨h1, h2, vs, hl, ra⟩ := s.ow hi
    refine ⟨.ref l, h1, .inl ⟨rfl, vs, .of hl⟩, he.run fm L O σ H _ W tk s fun v H1 g1 s1 r1 => ?_⟩
    obtain ⟨_, _, vs2, hl2, ra2⟩ := s1.ow hi
    have e0 := g1 l _ (s.own i l br _ hi).1 hl
    rw [e0] at hl2
    cases hl2
    refine ⟨l, vs, v, rfl, rfl, e0, by rw [ra2.len]; exact hz, em.nx O σ _ _ h ?_⟩
    exact s1.own_upd hi ⟨vs ++ [v], upd_same, ra2.snoc r1⟩
theorem psd_clear (i : Nat) {x : Str} {p1 apos : Pos} {l : Addr} {br : Bool} {xs : List Dt} (hi : Δ[i]? = some (some (.own l br (.lst xs)))) (h : P.nx (Δ.set i (some (.own l br (.lst []))))) (hN : X.N[i]? = some x := by rfl) (hv : Vis X.env.scope x := by first | exact Or.inl rfl | exact Or.inr (Or.inl rfl) | exact Or.inr (Or.inr rfl))
    (hd : (x == ("__debug__" : Str)) = false := by decide) (hcd : (x == ("__classdict__" : Str)) = false := by decide)
    (hbase : attributeBase (.Name x p1) "clear" X.env (eval (.Name x p1) X.env) = eval (.Name x p1) X.env := by rfl)
    (hline : (apos.endLine == pos.line) = true := by rfl) {pos2 : Pos} (hsw : swapsWith (.Call (.Attribute (.Name x p1) "clear" apos) [] [] pos) none pos2.line X.env = pure false := by rfl) :
    PSD X T Δ (.Expr (.Call (.Attribute (.Name x p1) "clear" apos) [] [] pos) pos2) P :=
  .of (ps_expr (pe_bm0 PySem.F.plainAttrs_list PySem.F.slot_list_clear PySem.F.type_list_clear mt_clear (slot_ref i hN hv hd hcd) hbase hline) hsw) fun fm L O σ H D W tk s em => by
    obtain ⟨h1, h2, vs, hl, ra⟩ := s.ow hi
    refine ⟨.ref l, h1, .inl ⟨rfl, vs, .of hl⟩, l, vs, rfl, rfl, hl, em.nx O σ _ _ h ?_⟩
    exact s.own_upd hi ⟨[], upd_same, .nil⟩
end

/-! ### a def by its body -/
def startD (N : List Str) (ds : List Dt) : DEnv := ds.map (fun d => some (.imm d)) ++ List.replicate (N.length - ds.length) none
def Res.de : Res → DE
  | .val d => { rt := fun _ d' => d' = d, nx := fun _ => d = .non }
  | .own o => { ro := fun _ o' => o' = o }
  | .exc C => { ex := fun _ C' => C' = C }
section
variable {P : Program} {w : World} {K : PySem.W.Frag} {mg : Str → Option Value} {base : Heap} {T : List Addr}
theorem sta_start {N : List Str} {vs : List V} {ds : List Dt} {O : List Addr} {H : Hp} (hp : Pre T O H) (ra : RpA K (mask H O) vs ds) : Sta K T ⟨O, [], H, []⟩ [] O (L2.start N vs) H (startD N ds) where
  tO := hp.tO
  tab := hp.tab
  dom := hp.dom
  o0 := fun _ h => h
  b0 := fun _ h => nomatch h
  d0 := fun l h => (hp.dom l h).1
  pin := fun _ h => nomatch h
  keep := fun _ _ e _ _ _ => e
  lock := fun _ h => nomatch h
  len := by unfold L2.start startD; simp [ra.len]
  slot := fun i e he => by
    unfold startD at he
    unfold L2.start
    by_cases hi : i < ds.length
    · rw [List.getElem?_append_left (by simpa using hi), List.getElem?_map] at he
      cases hd : ds[i]? with
      | none => rw [hd] at he; cases he
      | some d =>
        rw [hd] at he
        cases he
        obtain ⟨v, h1, h2⟩ := ra.get hd
        refine ⟨v, ?_, h2⟩
        rw [List.getElem?_append_left (by rw [List.length_map, ra.len]; exact hi), List.getElem?_map, h1]
        rfl
    · rw [List.getElem?_append_right (by simpa using hi), List.getElem?_replicate] at he
      split at he <;> cases he
  own := fun i l br o he => by
    unfold startD at he
    by_cases hi : i < ds.length
    · rw [List.getElem?_append_left (by simpa using hi), List.getElem?_map] at he
      cases hd : ds[i]? with
      | none => rw [hd] at he; cases he
      | some d => rw [hd] at he; cases he
    · rw [List.getElem?_append_right (by simpa using hi), List.getElem?_replicate] at he
      split at he <;> cases he
  sep := fun i j l br br' o o' he _ => by
    unfold startD at he
    by_cases hi : i < ds.length
    · rw [List.getElem?_append_left (by simpa using hi), List.getElem?_map] at he
      cases hd : ds[i]? with
      | none => rw [hd] at he; cases he
      | some d => rw [hd] at he; cases he
    · rw [List.getElem?_append_right (by simpa using hi), List.getElem?_replicate] at he
      split at he <;> cases he
theorem Sta.gr0 {fm : Fm} {O : List Addr} {σ : St} {H : Hp} {Δ : DEnv} (s : Sta K T fm [] O σ H Δ) (hB : fm.B = []) : Gr T fm.H0 H := fun a o hT e => s.keep a o e hT (by rw [hB]; exact fun z => nomatch z) (fun _ z => nomatch z)
theorem fn_ok {x qual : Str} {st : Stmt} {f : Addr} {fd : FuncData} {N ps : List Str} {k : Nat} {Fn : List Dt → Res → Prop} (F : Fun K x qual st f fd) (S : FnScope N ps (defScope st))
    (hbody : ∀ (cdv : Value) (A : Around) (outer : List PySem.Env) (s : Shared) (H : Hp) (E : XK) (ds : List Dt) (r : Res), Room k (A.deeper (PyProof.Rows.envOfC qual (defScope st) s.heap.objs.size f cdv)) → ds.length = ps.length → Fn ds r →
      PSsD (cxOf (L2.CX P w) P w K mg base N qual (defScope st) f cdv A outer s H E) T (startD N ds) (defBody st) r.de) : FnD P w K mg base T (k + 1) f fd ps Fn := by
  refine F.okX S (fun vs H Q E h => h.1) (fun cdv A outer s H vs Q E hr h => ?_)
  obtain ⟨hl, O, ds, r, hp, ra, hF, ck⟩ := h
  refine ⟨_, canSs_ok, ?_⟩
  refine (hbody cdv A outer s H E ds r hr (by rw [← ra.len]; exact hl) hF).run ⟨O, [], H, []⟩ [] O _ H _ (fun cls d _ H' => E cls d H') (takes_of rfl rfl rfl rfl) (sta_start hp ra) ?_
  have msk : ∀ {O' : List Addr} {H' : Hp}, (∀ l ∈ O, l ∈ O') → Le (mask H' O') (mask H' O) := fun h => mask_sub h
  cases r with
  | val d =>
    refine ⟨fun O' σ' H' Δ' h s' => ?_, fun O' σ' H' Δ' v d' h s' rv => ?_, fun _ _ _ _ _ _ h => h.elim, fun _ _ _ _ h => h.elim, fun _ _ _ _ h => h.elim, fun _ _ _ _ _ h => h.elim⟩
    · have h : d = .non := h
      subst h
      exact ck .non H' (s'.gr0 rfl) s'.tab .non
    · have h : d' = d := h
      subst h
      exact ck v H' (s'.gr0 rfl) s'.tab (rv.mono (msk s'.o0))
  | own o =>
    refine ⟨fun _ _ _ _ h => h.elim, fun _ _ _ _ _ _ h => h.elim, fun O' σ' H' Δ' l o' h s' hl h0 ow => ?_, fun _ _ _ _ h => h.elim, fun _ _ _ _ h => h.elim, fun _ _ _ _ _ h => h.elim⟩
    have h : o' = o := h
    subst h
    refine ck l H' h0 (s'.gr0 rfl) s'.tab (ow.mono (mask_sub fun b hb => ?_) fun u hu => hu)
    rcases List.mem_cons.mp hb with z | z
    · rw [z]; exact hl
    · exact s'.o0 b z
  | exc C =>
    refine ⟨fun _ _ _ _ h => h.elim, fun _ _ _ _ _ _ h => h.elim, fun _ _ _ _ _ _ h => h.elim, fun _ _ _ _ h => h.elim, fun _ _ _ _ h => h.elim, fun O' σ' H' Δ' C' h s' => ?_⟩
    have h : C' = C := h
    subst h
    exact ck H' (s'.gr0 rfl) s'.tab
end
end DL

set_option Elab.async false
set_option linter.all false
set_option maxRecDepth 100000
set_option maxHeartbeats 2000000
/-! DL6: loops, comprehensions. -/
namespace DL
open PySem PySem.Spec L2

abbrev Fm.pin (fm : Fm) (π : List (V × Dt)) : Fm := { fm with pins := π ++ fm.pins }
section
variable {X : Cx} {T : List Addr} {Δ : DEnv} {e a b c : Expr} {es : List Expr} {d d1 d2 d3 : Dt} {ds : List Dt} {r : Res} {pos p : Pos} {st : Stmt} {rest sts : List Stmt} {P : DE}
variable {K : PySem.W.Frag} {fm : Fm} {L : Lk} {O : List Addr} {σ : St} {H H' : Hp} {Q : VK} {W : WX} {D : Ends} {π : List (V × Dt)}
theorem Sta.unpin (s : Sta K T (fm.pin π) L O σ H Δ) : Sta K T fm L O σ H Δ :=
  ⟨s.tO, s.tab, s.dom, s.o0, s.b0, s.d0, fun p hp => s.pin p (List.mem_append_right _ hp), s.keep, s.lock, s.len, s.slot, s.own, s.sep⟩
theorem Sta.dopin (s : Sta K T fm L O σ H Δ) (h : ∀ p ∈ π, Rp K (mask H O) p.1 p.2) : Sta K T (fm.pin π) L O σ H Δ :=
  ⟨s.tO, s.tab, s.dom, s.o0, s.b0, s.d0, fun p hp => (List.mem_append.mp hp).elim (h p) (s.pin p), s.keep, s.lock, s.len, s.slot, s.own, s.sep⟩
theorem Emb.pin (em : Emb K T fm L P D W) : Emb K T (fm.pin π) L P D W :=
  ⟨fun O σ H Δ h s => em.nx O σ H Δ h s.unpin, fun O σ H Δ v d h s => em.rt O σ H Δ v d h s.unpin, fun O σ H Δ l o h s => em.ro O σ H Δ l o h s.unpin, fun O σ H Δ h s => em.bk O σ H Δ h s.unpin, fun O σ H Δ h s => em.ct O σ H Δ h s.unpin, fun O σ H Δ C h s => em.ex O σ H Δ C h s.unpin⟩
/-- what an iterator gives while the state is kept -/
structure ItOk (K : PySem.W.Frag) (T : List Addr) (J : It) (fm : Fm) (L : Lk) (items : List Dt) : Prop where
  go : ∀ (O : List Addr) (σ : St) (H : Hp) (Δ : DEnv) (i : Nat), Sta K T fm L O σ H Δ → i < items.length → J.go i H
  stop : ∀ (O : List Addr) (σ : St) (H : Hp) (Δ : DEnv), Sta K T fm L O σ H Δ → J.stop items.length H
  yld : ∀ (O : List Addr) (σ : St) (H : Hp) (Δ : DEnv) (i : Nat) (x : V) (H2 : Hp) (d : Dt), Sta K T fm L O σ H Δ → items[i]? = some d → J.yld i H x H2 → Gr T H H2 ∧ TabOk T H2 ∧ Rp K (mask H2 O) x d
def canI (X : Cx) (tg iter : Expr) : TI := fun σ H R => ∀ pins s, Inv X pins σ H s → wpAny (model X.prog X.w) X.A (eval iter X.env) (fun v s1 => wpAny (model X.prog X.w) X.A (pyIter v) (PIE X pins σ tg R) X.xe s1) X.xe s
theorem canI_ok {tg iter : Expr} : PI X tg iter (canI X tg iter) := ⟨fun pins s _ _ _ I h => h pins s I⟩
structure PID (X : Cx) (T : List Addr) (Δ : DEnv) (tg iter : Expr) (items : List Dt) : Prop where
  run : ∀ (fm : Fm) (L : Lk) (O : List Addr) (σ : St) (H : Hp) (R : It → Hp → Prop) (W : WX), Takes X W → Sta X.K T fm L O σ H Δ →
    (∀ J H1 π, Gr T H H1 → Sta X.K T (fm.pin π) L O σ H1 Δ → ItOk X.K T J (fm.pin π) L items → R J H1) → canI X tg iter σ H R
theorem PID.of {tg iter : Expr} {items : List Dt} {wi : TI} (h : PI X tg iter wi) (k : ∀ (fm : Fm) (L : Lk) (O : List Addr) (σ : St) (H : Hp) (R : It → Hp → Prop) (W : WX), Takes X W → Sta X.K T fm L O σ H Δ →
    (∀ J H1 π, Gr T H H1 → Sta X.K T (fm.pin π) L O σ H1 Δ → ItOk X.K T J (fm.pin π) L items → R J H1) → wi σ H R) : PID X T Δ tg iter items :=
  ⟨fun fm L O σ H R W tk s q pins sh I => h.run pins sh σ H R I (k fm L O σ H R W tk s q)⟩
theorem memPin {v : V} (s : Sta K T (fm.pin [(v, d)]) L O σ H Δ) : Rp K (mask H O) v d := s.pin _ (List.mem_append_left _ (List.mem_singleton.mpr rfl))
theorem Sta.pin1 {v : V} (s : Sta K T fm L O σ H Δ) (h : Rp K (mask H O) v d) : Sta K T (fm.pin [(v, d)]) L O σ H Δ := s.dopin fun p hp => by
  rw [List.mem_singleton.mp hp]; exact h
theorem pid_list {tg iter : Expr} (ha : PD X T Δ iter (.lst ds)) : PID X T Δ tg iter ds :=
  .of (pi_list canE_ok) fun fm L O σ H R W tk s q => ha.run fm L O σ H _ W tk s fun v H1 g1 s1 r1 => by
    obtain ⟨a, xs, rfl, g, ra⟩ := r1.lst_of
    refine ⟨a, rfl, ⟨xs, .of (s1.out g)⟩, q _ H1 [(.ref a, .lst ds)] g1 (s1.pin1 r1) ⟨fun O σ H Δ i s hi => ?_, fun O σ H Δ s => ?_, fun O σ H Δ i x H2 d s hd hy => ?_⟩⟩
    · obtain ⟨b, ys, e, g, rb⟩ := (memPin s).lst_of
      cases e
      exact ⟨ys, ys[i]'(by rw [rb.len]; exact hi), .of (s.out g), List.getElem?_eq_getElem _⟩
    · obtain ⟨b, ys, e, g, rb⟩ := (memPin s).lst_of
      cases e
      exact ⟨ys, .of (s.out g), Nat.le_of_eq rb.len⟩
    · obtain ⟨b, ys, e, g, rb⟩ := (memPin s).lst_of
      cases e
      obtain ⟨rfl, h⟩ := hy
      obtain ⟨x', e1, rx⟩ := rb.get hd
      have := h ys (.of (s.out g))
      rw [e1] at this
      cases this
      exact ⟨Gr.refl, s.tab, rx⟩
theorem pid_tup {tg iter : Expr} (ha : PD X T Δ iter (.tup ds)) : PID X T Δ tg iter ds :=
  .of (pi_tup canE_ok) fun fm L O σ H R W tk s q => ha.run fm L O σ H _ W tk s fun v H1 g1 s1 r1 => by
    obtain ⟨a, xs, rfl, g, ra⟩ := r1.tup_of
    refine ⟨a, rfl, ⟨xs, .of (s1.out g)⟩, q _ H1 [(.ref a, .tup ds)] g1 (s1.pin1 r1) ⟨fun O σ H Δ i s hi => ?_, fun O σ H Δ s => ?_, fun O σ H Δ i x H2 d s hd hy => ?_⟩⟩
    · obtain ⟨b, ys, e, g, rb⟩ := (memPin s).tup_of
      cases e
      exact ⟨ys, ys[i]'(by rw [rb.len]; exact hi), .of (s.out g), List.getElem?_eq_getElem _⟩
    · obtain ⟨b, ys, e, g, rb⟩ := (memPin s).tup_of
      cases e
      exact ⟨ys, .of (s.out g), Nat.le_of_eq rb.len⟩
    · obtain ⟨b, ys, e, g, rb⟩ := (memPin s).tup_of
      cases e
      obtain ⟨rfl, h⟩ := hy
      obtain ⟨x', e1, rx⟩ := rb.get hd
      have := h ys (.of (s.out g))
      rw [e1] at this
      cases this
      exact ⟨Gr.refl, s.tab, rx⟩
theorem pid_str {tg iter : Expr} {z : List Nat} (ha : PD X T Δ iter (.str z)) : PID X T Δ tg iter (z.map fun c => .str [c]) :=
  .of (pi_str canE_ok) fun fm L O σ H R W tk s q => ha.run fm L O σ H _ W tk s fun v H1 g1 s1 r1 => by
    refine ⟨_, r1.str_of, q _ H1 [] g1 s1 ⟨fun O σ H Δ i s hi => ?_, fun O σ H Δ s => ?_, fun O σ H Δ i x H2 d s hd hy => ?_⟩⟩
    · show i < _
      simpa using hi
    · show _ ≤ _
      simp
    · obtain ⟨rfl, c, hc, rfl⟩ := hy
      have hc : z[i]? = some c := by simpa using hc
      rw [List.getElem?_map, hc] at hd
      cases hd
      exact ⟨Gr.refl, s.tab, .str [c]⟩
/-- range(n) -/
def rangeD (lo : Int) (n : Nat) : List Dt := (List.range n).map fun i => .int (lo + (i : Nat))
theorem rangeD_len (lo : Int) (n : Nat) : (rangeD lo n).length = n := by unfold rangeD; simp
theorem rangeD_get {lo : Int} {n i : Nat} {d : Dt} (h : (rangeD lo n)[i]? = some d) : i < n ∧ d = .int (lo + i) := by
  unfold rangeD at h
  rw [List.getElem?_map] at h
  cases hi : (List.range n)[i]? with
  | none => rw [hi] at h; cases h
  | some j =>
    rw [hi] at h
    obtain ⟨h1, h2⟩ := List.getElem?_eq_some_iff.mp hi
    rw [List.getElem_range] at h2
    subst h2
    cases h
    exact ⟨by simpa using h1, rfl⟩
theorem itr_ok {lo : Int} {n : Nat} : ItOk K T (Itr lo n) fm L (rangeD lo n) := by
  refine ⟨fun O σ H Δ i s hi => ?_, fun O σ H Δ s => ?_, fun O σ H Δ i x H2 d s hd hy => ?_⟩
  · rw [rangeD_len] at hi; exact hi
  · rw [rangeD_len]; exact Nat.le_refl _
  · obtain ⟨rfl, rfl⟩ := hy
    obtain ⟨_, rfl⟩ := rangeD_get hd
    exact ⟨Gr.refl, s.tab, .int _⟩
/-- range(n) from nought -/
def rangeN (n : Nat) : List Dt := (List.range n).map fun i => .int ((i : Nat) : Int)
theorem rangeN_len (n : Nat) : (rangeN n).length = n := by unfold rangeN; simp
theorem rangeN_eq (n : Nat) : rangeN n = rangeD 0 n := by unfold rangeN rangeD; simp
theorem rangeN_get {n i : Nat} {d : Dt} (h : (rangeN n)[i]? = some d) : i < n ∧ d = .int ((i : Nat) : Int) := by
  rw [rangeN_eq] at h
  obtain ⟨h1, h2⟩ := rangeD_get h
  exact ⟨h1, by rw [h2, Int.zero_add]⟩
theorem pid_range1 {tg : Expr} {n : Int} (hm : X.mg "range" = none) (ha : PD X T Δ a (.int n)) (h1 : -(2 ^ 62) ≤ n) (h2 : n < 2 ^ 62) (hg : Gl X "range" := by rfl)
    (hs : starEach [a] X.env = (false, eval a X.env) :: starEach [] X.env := by rfl) (hs2 : starEach [a] X.env = [(false, eval a X.env)] := by rfl) : PID X T Δ tg (.Call (.Name "range" p) [a] [] pos) (rangeN n.toNat) :=
  .of (pi_range1 hg hm canA_ok hs2) fun fm L O σ H R W tk s q => (pad_cons ha pad_nil hs).run fm L O σ H _ W tk s fun vs H1 g1 s1 r1 => by
    obtain ⟨v, rfl, rv⟩ := r1.one
    rw [rv.int_of]
    exact ⟨n, rfl, h1, h2, q _ H1 [] g1 s1 (by rw [rangeN_eq]; exact itr_ok)⟩
theorem pid_range2 {tg : Expr} {m n : Int} (hm : X.mg "range" = none) (ha : PD X T Δ a (.int m)) (hb : PD X T Δ b (.int n)) (h : -(2 ^ 62) ≤ m ∧ m < 2 ^ 62 ∧ -(2 ^ 62) ≤ n ∧ n < 2 ^ 62) (hg : Gl X "range" := by rfl)
    (hs : starEach [a, b] X.env = (false, eval a X.env) :: starEach [b] X.env := by rfl) (hs1 : starEach [b] X.env = (false, eval b X.env) :: starEach [] X.env := by rfl) (hs2 : starEach [a, b] X.env = [(false, eval a X.env), (false, eval b X.env)] := by rfl) (hs3 : starEach [b] X.env = [(false, eval b X.env)] := by rfl) :
    PID X T Δ tg (.Call (.Name "range" p) [a, b] [] pos) (rangeD m (n - m).toNat) :=
  .of (pi_range2 hg hm canA_ok hs2 hs3) fun fm L O σ H R W tk s q => (pad_cons ha (pad_cons hb pad_nil hs1) hs).run fm L O σ H _ W tk s fun vs H1 g1 s1 r1 => by
    obtain ⟨v, w, rfl, rv, rw'⟩ := r1.two
    rw [rv.int_of, rw'.int_of]
    exact ⟨m, n, rfl, h, q _ H1 [] g1 s1 itr_ok⟩
/-- enumerate(xs) -/
theorem pid_enum {tpos : Pos} {elts : List Expr} {kk : Nat} (hm : X.mg "enumerate" = none) (ha : PD X T Δ a (.lst ds)) (hg : Gl X "enumerate" := by rfl) (hs : starEach [a] X.env = (false, eval a X.env) :: starEach [] X.env := by rfl) (hs2 : starEach [a] X.env = [(false, eval a X.env)] := by rfl) :
    PID X T Δ (.Tuple elts kk tpos) (.Call (.Name "enumerate" p) [a] [] pos) (ds.mapIdx fun i d => .tup [.int (i : Nat), d]) :=
  .of (pi_enum hg hm canA_ok hs2) fun fm L O σ H R W tk s q => (pad_cons ha pad_nil hs).run fm L O σ H _ W tk s fun vs H1 g1 s1 r1 => by
    obtain ⟨v, rfl, rv⟩ := r1.one
    obtain ⟨a, xs, rfl, g, ra⟩ := rv.lst_of
    refine ⟨a, xs, rfl, .of (s1.out g), q _ H1 [(.ref a, .lst ds)] g1 (s1.pin1 rv) ⟨fun O σ H Δ i s hi => ?_, fun O σ H Δ s => ?_, fun O σ H Δ i x H2 d s hd hy => ?_⟩⟩
    · rw [List.length_mapIdx] at hi
      obtain ⟨b, ys, e, g, rb⟩ := (memPin s).lst_of
      cases e
      exact ⟨ys, ys[i]'(by rw [rb.len]; exact hi), .of (s.out g), List.getElem?_eq_getElem _⟩
    · rw [List.length_mapIdx]
      obtain ⟨b, ys, e, g, rb⟩ := (memPin s).lst_of
      cases e
      exact ⟨ys, .of (s.out g), Nat.le_of_eq rb.len⟩
    · obtain ⟨b, ys, e, g, rb⟩ := (memPin s).lst_of
      cases e
      obtain ⟨Tp, z, rfl, hT, rfl, h⟩ := hy
      rw [List.getElem?_mapIdx] at hd
      cases hz : ds[i]? with
      | none => rw [hz] at hd; cases hd
      | some d0 =>
        rw [hz] at hd
        cases hd
        obtain ⟨x', e1, rx⟩ := rb.get hz
        have := h ys (.of (s.out g))
        rw [e1] at this
        cases this
        exact ⟨Gr.new hT, (s.new hT).tab, Rp.new_tup s hT (.cons (.int _) (.cons rx .nil))⟩
/-- zip(xs, ys) -/
theorem pid_zip {es2 : List Dt} {tpos : Pos} {elts : List Expr} {kk : Nat} (hm : X.mg "zip" = none) (ha : PD X T Δ a (.lst ds)) (hb : PD X T Δ b (.lst es2)) (hg : Gl X "zip" := by rfl) (hs : starEach [a, b] X.env = (false, eval a X.env) :: starEach [b] X.env := by rfl)
    (hs2 : starEach [b] X.env = (false, eval b X.env) :: starEach [] X.env := by rfl) (hpl : (backTo pos (starEach [b] X.env)).any (·.1) = false := by rfl) :
    PID X T Δ (.Tuple elts kk tpos) (.Call (.Name "zip" p) [a, b] [] pos) ((ds.zip es2).map fun q => .tup [q.1, q.2]) :=
  .of (pi_zip hg hm canA_ok hs hpl) fun fm L O σ H R W tk s q => (pad_cons ha (pad_cons hb pad_nil hs2) hs).run fm L O σ H _ W tk s fun vs H1 g1 s1 r1 => by
    obtain ⟨v, w, rfl, rv, rw'⟩ := r1.two
    obtain ⟨a, xs, rfl, g, ra⟩ := rv.lst_of
    obtain ⟨b, ys, rfl, g', rb⟩ := rw'.lst_of
    have lz : ((ds.zip es2).map fun q => Dt.tup [q.1, q.2]).length = min ds.length es2.length := by simp
    have two : ∀ {O σ H Δ}, Sta X.K T (fm.pin [(.ref a, .lst ds), (.ref b, .lst es2)]) L O σ H Δ → (∃ xs, H a = some (.lst xs) ∧ RpA X.K (mask H O) xs ds) ∧ ∃ ys, H b = some (.lst ys) ∧ RpA X.K (mask H O) ys es2 := fun {O σ H Δ} s => by
      obtain ⟨a1, x1, e1, g1, r1⟩ := (s.pin (.ref a, .lst ds) (List.mem_append_left _ List.mem_cons_self)).lst_of
      obtain ⟨a2, x2, e2, g2, r2⟩ := (s.pin (.ref b, .lst es2) (List.mem_append_left _ (List.mem_cons_of_mem _ List.mem_cons_self))).lst_of
      cases e1; cases e2
      exact ⟨⟨x1, s.out g1, r1⟩, x2, s.out g2, r2⟩
    refine ⟨a, b, xs, ys, rfl, .of (s1.out g), .of (s1.out g'), q _ H1 [(.ref a, .lst ds), (.ref b, .lst es2)] g1 (s1.dopin fun p hp => ?_) ⟨fun O σ H Δ i s hi => ?_, fun O σ H Δ s => ?_, fun O σ H Δ i x H2 d s hd hy => ?_⟩⟩
    · rcases List.mem_cons.mp hp with z | z
      · rw [z]; exact rv
      · rw [List.mem_singleton.mp z]; exact rw'
    · rw [lz] at hi
      obtain ⟨⟨xs, h1, r1⟩, ys, h2, r2⟩ := two s
      have := r1.len
      have := r2.len
      exact ⟨xs, ys, xs[i]'(by omega), ys[i]'(by omega), .of h1, .of h2, List.getElem?_eq_getElem _, List.getElem?_eq_getElem _⟩
    · rw [lz]
      obtain ⟨⟨xs, h1, r1⟩, ys, h2, r2⟩ := two s
      have := r1.len
      have := r2.len
      exact ⟨xs, ys, .of h1, .of h2, by omega⟩
    · obtain ⟨⟨xs, h1, r1⟩, ys, h2, r2⟩ := two s
      obtain ⟨Tp, x', y', rfl, hT, rfl, hx, hy⟩ := hy
      rw [List.getElem?_map] at hd
      cases hz : (ds.zip es2)[i]? with
      | none => rw [hz] at hd; cases hd
      | some pr =>
        rw [hz] at hd
        cases hd
        obtain ⟨z1, z2⟩ := List.getElem?_zip_eq_some.mp hz
        obtain ⟨v1, e1, rx⟩ := r1.get z1
        obtain ⟨v2, e2, ry⟩ := r2.get z2
        have q1 := hx xs (.of h1)
        have q2 := hy ys (.of h2)
        rw [e1] at q1; cases q1
        rw [e2] at q2; cases q2
        exact ⟨Gr.new hT, (s.new hT).tab, Rp.new_tup s hT (.cons rx (.cons ry .nil))⟩
/-- reversed(xs), a list -/
theorem pid_rev {tg : Expr} (hm : X.mg "reversed" = none) (ha : PD X T Δ a (.lst ds)) (hg : Gl X "reversed" := by rfl) (hs : starEach [a] X.env = (false, eval a X.env) :: starEach [] X.env := by rfl) (hs2 : starEach [a] X.env = [(false, eval a X.env)] := by rfl) :
    PID X T Δ tg (.Call (.Name "reversed" p) [a] [] pos) ds.reverse :=
  .of (pi_reversed hg hm canA_ok hs2) fun fm L O σ H R W tk s q => (pad_cons ha pad_nil hs).run fm L O σ H _ W tk s fun vs H1 g1 s1 r1 => by
    obtain ⟨v, rfl, rv⟩ := r1.one
    obtain ⟨a, xs, rfl, g, ra⟩ := rv.lst_of
    refine ⟨a, xs, rfl, .of (s1.out g), q _ H1 [(.ref a, .lst ds)] g1 (s1.pin1 rv) ⟨fun O σ H Δ i s hi => ?_, fun O σ H Δ s => ?_, fun O σ H Δ i x H2 d s hd hy => ?_⟩⟩
    · rw [List.length_reverse] at hi
      obtain ⟨b, ys, e, g, rb⟩ := (memPin s).lst_of
      cases e
      have := ra.len
      have := rb.len
      exact ⟨by omega, ys, ys[xs.length - 1 - i]'(by omega), .of (s.out g), List.getElem?_eq_getElem _⟩
    · rw [List.length_reverse]
      show _ ≤ _
      rw [ra.len]; exact Nat.le_refl _
    · obtain ⟨b, ys, e, g, rb⟩ := (memPin s).lst_of
      cases e
      obtain ⟨rfl, h⟩ := hy
      have hi : i < ds.length := by
        have := (List.getElem?_eq_some_iff.mp hd).1
        rwa [List.length_reverse] at this
      rw [List.getElem?_reverse hi] at hd
      obtain ⟨x', e1, rx⟩ := rb.get hd
      have := h ys (.of (s.out g))
      rw [ra.len, e1] at this
      cases this
      exact ⟨Gr.refl, s.tab, rx⟩

/-! ### for, while -/
theorem psd_for {tg iter : Expr} {body : List Stmt} {items : List Dt} (po : PassesOwn (model X.prog X.w) X.A X.env X.xe) (hc : X.calm = true) (hi : PID X T Δ tg iter items) (Iv : Nat → DEnv → Prop) (h0 : Iv 0 Δ)
    (hs : ∀ (i : Nat) (d : Dt) (Δ' : DEnv), items[i]? = some d → Iv i Δ' → ∃ js Δ'', GD X T tg d js Δ' Δ'' ∧ PSsD X T Δ'' body { P with nx := Iv (i + 1), ct := Iv (i + 1), bk := P.nx }) (hd : ∀ Δ', Iv items.length Δ' → P.nx Δ')
    (hfs : ∀ x, foldedSetIterable iter X.env x = pure x := by intro _; rfl) : PSD X T Δ (.For tg iter body [] pos) P :=
  .of (ps_for po hc canI_ok canG_ok canSs_ok hfs) fun fm L O σ H D W tk s em => hi.run fm L O σ H _ W tk s fun J H1 π g1 s1 ok => by
    refine ⟨fun i m σ' H' => m = items.length - i ∧ i ≤ items.length ∧ ∃ O' Δ', Iv i Δ' ∧ Sta X.K T (fm.pin π) L O' σ' H' Δ', ⟨items.length, by simp, Nat.zero_le _, O, Δ, h0, s1⟩, ?_⟩
    rintro i m σ' H' ⟨rfl, hi, O', Δ', iv, s'⟩
    by_cases hlt : i < items.length
    · refine .inr ⟨ok.go O' σ' H' Δ' i s' hlt, fun σ2 H2 => ∃ O2 Δ2, Iv (i + 1) Δ2 ∧ Sta X.K T (fm.pin π) L O2 σ2 H2 Δ2, fun σ2 H2 ⟨O2, Δ2, iv2, s2⟩ => ⟨items.length - (i + 1), by omega, rfl, hlt, O2, Δ2, iv2, s2⟩, fun x H2 hy => ?_⟩
      obtain ⟨g2, t2, rx⟩ := ok.yld O' σ' H' Δ' i x H2 items[i] s' (List.getElem?_eq_getElem hlt) hy
      obtain ⟨js, Δ'', hgd, hb⟩ := hs i items[i] Δ' (List.getElem?_eq_getElem hlt) iv
      refine hgd.run (fm.pin π) L O' σ' H2 x _ (s'.gr g2 t2) rx fun σ2 s2 _ => hb.run (fm.pin π) L O' σ2 H2 _ W tk s2 ?_
      exact ⟨fun O σ H Δ h s => ⟨O, Δ, h, s⟩, em.pin.rt, em.pin.ro, fun O σ H Δ h s => em.nx O σ H Δ h s.unpin, fun O σ H Δ h s => ⟨O, Δ, h, s⟩, em.pin.ex⟩
    · have e : i = items.length := by omega
      subst e
      exact .inl ⟨ok.stop O' σ' H' Δ' s', em.nx O' σ' H' Δ' (hd Δ' iv) s'.unpin⟩
theorem psd_while {body : List Stmt} (po : PassesOwn (model X.prog X.w) X.A X.env X.xe) (Iv : Nat → DEnv → Prop) (m0 : Nat) (h0 : Iv m0 Δ)
    (hs : ∀ (m : Nat) (Δ' : DEnv), Iv m Δ' → ∃ k, PTD X T Δ' c k ∧ (k = true → PSsD X T Δ' body { P with nx := fun Δ'' => ∃ m', m' < m ∧ Iv m' Δ'', ct := fun Δ'' => ∃ m', m' < m ∧ Iv m' Δ'', bk := P.nx }) ∧ (k = false → P.nx Δ')) : PSD X T Δ (.While c body [] pos) P :=
  .of (ps_while po canT_ok canSs_ok) fun fm L O σ H D W tk s em => by
    refine ⟨fun m σ' H' => ∃ O' Δ', Iv m Δ' ∧ Sta X.K T fm L O' σ' H' Δ', ⟨m0, O, Δ, h0, s⟩, fun m σ' H' ⟨O', Δ', iv, s'⟩ => ?_⟩
    obtain ⟨k, hk, h1, h2⟩ := hs m Δ' iv
    refine hk.run fm L O' σ' H' _ W tk s' fun H2 g2 s2 => ?_
    cases k with
    | false => exact em.nx O' σ' H2 Δ' (h2 rfl) s2
    | true =>
      rw [if_pos rfl]
      refine ⟨fun σ3 H3 => ∃ O3 Δ3, (∃ m', m' < m ∧ Iv m' Δ3) ∧ Sta X.K T fm L O3 σ3 H3 Δ3, fun σ3 H3 ⟨O3, Δ3, ⟨m', hm, iv3⟩, s3⟩ => ⟨m', hm, O3, Δ3, iv3, s3⟩, ?_⟩
      refine (h1 rfl).run fm L O' σ' H2 _ W tk s2 ?_
      exact ⟨fun O σ H Δ h s => ⟨O, Δ, h, s⟩, em.rt, em.ro, em.nx, fun O σ H Δ h s => ⟨O, Δ, h, s⟩, em.ex⟩

/-! ### comprehensions -/
def wipeD (Δ : DEnv) : List Nat → DEnv
  | [] => Δ
  | v :: vs => (wipeD Δ vs).set v none
theorem wipeD_len (Δ : DEnv) : ∀ vs, (wipeD Δ vs).length = Δ.length
  | [] => rfl
  | v :: vs => by unfold wipeD; rw [List.length_set, wipeD_len Δ vs]
theorem wipe_get {σ : St} : ∀ (vs : List Nat) (i : Nat), (wipe σ vs)[i]? = if i ∈ vs then (if i < σ.length then some none else none) else σ[i]?
  | [], i => by simp [wipe]
  | v :: vs, i => by
    unfold wipe
    rw [List.getElem?_set, wipe_get vs i, wipe_length]
    by_cases h : v = i
    · subst h
      simp
    · have h' : ¬ i = v := fun z => h z.symm
      simp [h, h']
theorem wipeD_get {Δ : DEnv} : ∀ (vs : List Nat) (i : Nat), (wipeD Δ vs)[i]? = if i ∈ vs then (if i < Δ.length then some none else none) else Δ[i]?
  | [], i => by simp [wipeD]
  | v :: vs, i => by
    unfold wipeD
    rw [List.getElem?_set, wipeD_get vs i, wipeD_len]
    by_cases h : v = i
    · subst h
      simp
    · have h' : ¬ i = v := fun z => h z.symm
      simp [h, h']
theorem wipe_same {σ σ2 : St} {vs js : List Nat} (hl : σ2.length = σ.length) (hj : ∀ j ∈ js, j ∈ vs) (h : ∀ i, i ∉ js → σ2[i]? = (wipe σ vs)[i]?) : wipe σ2 vs = wipe σ vs := by
  refine List.ext_getElem? fun i => ?_
  rw [wipe_get, wipe_get, hl]
  by_cases hi : i ∈ vs
  · rw [if_pos hi, if_pos hi]
  · rw [if_neg hi, if_neg hi, h i fun z => hi (hj i z), wipe_get, if_neg hi]
theorem Sta.wiped (s : Sta K T fm L O σ H Δ) (vs : List Nat) : Sta K T fm L O (wipe σ vs) H (wipeD Δ vs) :=
  s.weak (by rw [wipe_length, wipeD_len, s.len]) fun i e he => by
    rw [wipeD_get] at he
    by_cases hi : i ∈ vs
    · rw [if_pos hi] at he
      split at he <;> cases he
    · rw [if_neg hi] at he
      refine ⟨he, ?_⟩
      rw [wipe_get, if_neg hi]
abbrev blkX (X : Cx) (scope : Scope) (s : Shared) (H : Hp) (C : Addr) (cl : List (Str × Addr)) (fp : List Addr) : Cx := X.blk s H scope (compEnvC scope cl C X.env) fp
def canEb (X : Cx) (scope : Scope) (e : Expr) : TE := fun σ H Q => ∀ s0 H0 C cl fp, canE (blkX X scope s0 H0 C cl fp) e σ H Q
def canTb (X : Cx) (scope : Scope) (e : Expr) : TT := fun σ H Q => ∀ s0 H0 C cl fp, canT (blkX X scope s0 H0 C cl fp) e σ H Q
def canGb (X : Cx) (scope : Scope) (e : Expr) : TG := fun v σ H Q => ∀ s0 H0 C cl fp, canG (blkX X scope s0 H0 C cl fp) e v σ H Q
/-- in the block: for each of its frames -/
def InBlk (X : Cx) (scope : Scope) (f : Cx → Prop) : Prop := ∀ s0 H0 C cl fp, f (blkX X scope s0 H0 C cl fp)
/-- what the turns give: sel the kept ones -/
structure LcTurn (X : Cx) (T : List Addr) (scope : Scope) (vs : List Nat) (tg : Expr) (tt : TT) (elt : Expr) (Δ : DEnv) (d : Dt) (o : Option Dt) : Prop where
  ex : ∃ js Δ'' k, (∀ j ∈ js, j ∈ vs) ∧ InBlk X scope (fun X' => GD X' T tg d js (wipeD Δ vs) Δ'') ∧
    (∀ (fm : Fm) (L : Lk) (O : List Addr) (σ : St) (H : Hp) (Q : Bool → Hp → Prop), Sta X.K T fm L O σ H Δ'' → (∀ H2, Gr T H H2 → Sta X.K T fm L O σ H2 Δ'' → Q k H2) → tt σ H Q) ∧
    (k = true → ∃ d', o = some d' ∧ InBlk X scope (fun X' => PD X' T Δ'' elt d')) ∧ (k = false → o = none)
theorem turn_all {scope : Scope} {vs js : List Nat} {tg elt : Expr} {Δ'' : DEnv} {d' : Dt} (hj : ∀ j ∈ js, j ∈ vs) (hg : InBlk X scope (fun X' => GD X' T tg d js (wipeD Δ vs) Δ'')) (he : InBlk X scope (fun X' => PD X' T Δ'' elt d')) : LcTurn X T scope vs tg tYes elt Δ d (some d') :=
  ⟨js, Δ'', true, hj, hg, fun fm L O σ H Q s q => q H Gr.refl s, fun _ => ⟨d', rfl, he⟩, fun z => nomatch z⟩
theorem turn_if {scope : Scope} {vs js : List Nat} {tg elt : Expr} {Δ'' : DEnv} {k : Bool} {o : Option Dt} (hj : ∀ j ∈ js, j ∈ vs) (hg : InBlk X scope (fun X' => GD X' T tg d js (wipeD Δ vs) Δ'')) (hk : InBlk X scope (fun X' => PTD X' T Δ'' c k))
    (he : k = true → ∃ d', o = some d' ∧ InBlk X scope (fun X' => PD X' T Δ'' elt d')) (hn : k = false → o = none) : LcTurn X T scope vs tg (canTb X scope c) elt Δ d o :=
  ⟨js, Δ'', k, hj, hg, fun fm L O σ H Q s q s0 H0 C cl fp => (hk s0 H0 C cl fp).run fm L O σ H Q _ takes0 s q, he, hn⟩
theorem lc_read {scope : Scope} {vs : List Nat} {tg iter elt : Expr} {tt : TT} {items : List Dt} {sel : List (Option Dt)} (hi : PID X T Δ tg iter items) (hl : sel.length = items.length) (hz : items.length < sizeLine)
    (ht : ∀ (i : Nat) (d : Dt) (o : Option Dt), items[i]? = some d → sel[i]? = some o → LcTurn X T scope vs tg tt elt Δ d o)
    (fm : Fm) (L : Lk) (O : List Addr) (σ : St) (H : Hp) (Q : VK) (W : WX) (tk : Takes X W) (s : Sta X.K T fm L O σ H Δ) (q : RK X.K T fm L O σ H Δ Q W (.own (.lst (sel.filterMap id)))) :
    tLc (canI X tg iter) (canGb X scope tg) tt (canEb X scope elt) vs σ H Q :=
  hi.run fm L O σ H _ W tk s fun J H1 π g1 s1 ok => by
    intro Dl hD
    have hD0 : H Dl = none := g1.back (s1.new_apart hD).2.2.1 hD
    obtain ⟨aO, a0, aT, aL⟩ := s1.new_apart hD
    refine ⟨fun i m H' => m = items.length - i ∧ i ≤ items.length ∧ Gr T H1 H' ∧ Sta X.K T (fm.pin π) L (Dl :: O) σ H' Δ ∧ ∃ acc, H' Dl = some (.lst acc) ∧ RpA X.K (mask H' (Dl :: O)) acc ((sel.take i).filterMap id),
      ⟨items.length, by simp, Nat.zero_le _, Gr.new hD, s1.hide hD, [], upd_same, .nil⟩, ?_⟩
    rintro i m H' ⟨rfl, hi, g', s', acc, hacc, racc⟩
    by_cases hlt : i < items.length
    · have hsl : i < sel.length := by omega
      obtain ⟨js, Δ'', k, hj, hgd, htt, hyes, hno⟩ := (ht i items[i] sel[i] (List.getElem?_eq_getElem hlt) (List.getElem?_eq_getElem hsl)).ex
      have take1 : (sel.take (i + 1)).filterMap id = (sel.take i).filterMap id ++ (match sel[i] with | some d => [d] | none => []) := by
        rw [List.take_succ_eq_append_getElem hsl, List.filterMap_append]
        congr 1
        cases sel[i] <;> rfl
      refine .inr ⟨ok.go _ _ _ _ i s' hlt, fun H2 => Gr T H1 H2 ∧ Sta X.K T (fm.pin π) L (Dl :: O) σ H2 Δ ∧ ∃ acc, H2 Dl = some (.lst acc) ∧ RpA X.K (mask H2 (Dl :: O)) acc ((sel.take (i + 1)).filterMap id),
        fun H2 ⟨g2, s2, h2⟩ => ⟨items.length - (i + 1), by omega, rfl, hlt, g2, s2, h2⟩, fun x H2 hy => ?_⟩
      obtain ⟨g2, t2, rx⟩ := ok.yld _ _ _ _ i x H2 items[i] s' (List.getElem?_eq_getElem hlt) hy
      have s2 := s'.gr g2 t2
      have hacc2 : H2 Dl = some (.lst acc) := g2 Dl _ aT hacc
      intro s0 H0 C cl fp
      refine (hgd s0 H0 C cl fp).run (fm.pin π) L (Dl :: O) (wipe σ vs) H2 x _ (s2.wiped vs) rx fun σ2 s3 hsame => ?_
      refine ⟨wipe_same (hsame.len.trans (wipe_length σ vs)) hj hsame.at_, ?_⟩
      refine htt (fm.pin π) L (Dl :: O) σ2 H2 _ s3 fun H3 g3 s4 => ?_
      have s5 := s2.gr g3 s4.tab
      have hacc3 : H3 Dl = some (.lst acc) := g3 Dl _ aT hacc2
      have le3 := (g2.trans g3).mask (O := Dl :: O) (fun P hP => s'.tO P hP)
      cases k with
      | false =>
        rw [if_neg Bool.false_ne_true]
        have e := hno rfl
        refine ⟨(g'.trans g2).trans g3, s5, acc, hacc3, ?_⟩
        rw [take1, e, List.append_nil]
        exact racc.mono le3
      | true =>
        rw [if_pos rfl]
        obtain ⟨d', e, hpd⟩ := hyes rfl
        intro s0 H0 C cl fp
        refine (hpd s0 H0 C cl fp).run (fm.pin π) L (Dl :: O) σ2 H3 _ _ takes0 s4 fun y H4 g4 s6 ry => ?_
        have s7 := s5.gr g4 s6.tab
        have hacc4 : H4 Dl = some (.lst acc) := g4 Dl _ aT hacc3
        have hm : mask (upd H4 Dl (.lst (acc ++ [y]))) (Dl :: O) = mask H4 (Dl :: O) := mask_upd List.mem_cons_self
        refine ⟨acc, hacc4, ?_, fun a o n ha => ?_, ?_, acc ++ [y], upd_same, ?_⟩
        · have := racc.len
          have h2 := List.length_filterMap_le id (sel.take i)
          rw [List.length_take] at h2
          omega
        · have ne : a ≠ Dl := fun z => by rw [z, hD] at ha; cases ha
          rw [upd_ne ne]
          exact g4 a o n (g3 a o n (g2 a o n (g' a o n ha)))
        · have hne : ∀ (i : Nat) (l : Addr) (br : Bool) (o : Ow), Δ[i]? = some (some (.own l br o)) → l ≠ Dl := aL
          refine ⟨s7.tO, fun P hP => ?_, fun l hl => ?_, s7.o0, s7.b0, s7.d0, fun q hq => by rw [hm]; exact s7.pin q hq, fun a o e h1 h2 h3 => ?_, fun q hq => ?_, s7.len, fun i e he => ?_, s7.own, s7.sep⟩
          · obtain ⟨ps, e1, q1⟩ := s7.tab P hP
            exact ⟨ps, by rw [upd_ne fun (z : P = Dl) => aT (z ▸ hP)]; exact e1, q1⟩
          · by_cases hl2 : l = Dl
            · rw [hl2]; exact .of upd_same fun _ z => nomatch z
            · exact (s7.dom l hl).keep fun v e => by rw [upd_ne hl2]; exact e
          · have ne : a ≠ Dl := fun z => by
              have := s1.fresh0 hD
              rw [z] at e
              have e2 : fm.H0 Dl = some o := e
              rw [show fm.H0 Dl = none from this] at e2; cases e2
            rw [upd_ne ne]
            exact s7.keep a o e h1 h2 h3
          · have ne : q.1 ≠ Dl := fun z => by
              have := s1.lock q hq
              rw [z, hD] at this; cases this
            rw [upd_ne ne]
            exact s7.lock q hq
          · obtain ⟨v, h1, h2⟩ := s7.slot i e he
            refine ⟨v, h1, ?_⟩
            cases e with
            | imm d =>
              show Rp X.K (mask (upd H4 Dl (.lst (acc ++ [y]))) (Dl :: O)) v d
              rw [hm]; exact h2
            | own l br o =>
              obtain ⟨q1, q2, q3⟩ := h2
              refine ⟨q1, q2, ?_⟩
              rw [hm]
              exact q3.mono (Le.refl _) fun u hu => by rw [upd_ne (hne i l br o he)]; exact hu
        · rw [hm, take1, e]
          exact (racc.mono (((g2.trans g3).trans g4).mask (O := Dl :: O) (fun P hP => s'.tO P hP))).snoc ry
    · have e : i = items.length := by omega
      subst e
      refine .inl ⟨ok.stop _ _ _ _ s', q Dl H' hD0 (g1.trans g') s'.unpin ⟨acc, hacc, ?_⟩⟩
      rw [show sel.take items.length = sel by rw [← hl]; exact List.take_length] at racc
      exact racc
theorem filterMap_some (outs : List Dt) : (outs.map some).filterMap id = outs := by
  induction outs with
  | nil => rfl
  | cons a r ih => simpa using ih
/-- [elt for tg in iter] -/
theorem pr_lc {scope : Scope} {own : List (Str × Nat)} {tg iter elt : Expr} {items outs : List Dt} (hc : X.calm = true) (hN : X.N.Nodup) (ok : BlkOk X.N X.env.scope scope own) (hi : PID X T Δ tg iter items) (hl : outs.length = items.length) (hz : items.length < sizeLine)
    (ht : ∀ (i : Nat) (d o : Dt), items[i]? = some d → outs[i]? = some o → ∃ js Δ'', (∀ j ∈ js, j ∈ own.map (·.2)) ∧ InBlk X scope (fun X' => GD X' T tg d js (wipeD Δ (own.map (·.2))) Δ'') ∧ InBlk X scope (fun X' => PD X' T Δ'' elt o))
    (hfs : ∀ x, foldedSetIterable iter X.env x = pure x := by intro _; rfl) : PR X T Δ (.ListComp elt [⟨tg, iter, [], 0⟩] scope pos) (.own (.lst outs)) :=
  .of (pe_lc (g := canGb X scope tg) (tt := tYes) (te := canEb X scope elt) hc hN canI_ok ok (fun s H C cl fp => ⟨fun pins sh σ H v u Q I r h => h s _ C cl fp pins sh u I r⟩) (fun _ _ _ _ _ => pts_nil) (fun s H C cl fp => ⟨fun pins sh σ H Q I h => h s _ C cl fp pins sh I⟩) hfs) fun fm L O σ H Q W tk s q =>
    lc_read hi (sel := outs.map some) (by rw [List.length_map]; exact hl) hz (fun i d o h1 h2 => by
      rw [List.getElem?_map] at h2
      cases ho : outs[i]? with
      | none => rw [ho] at h2; cases h2
      | some o' =>
        rw [ho] at h2
        cases h2
        obtain ⟨js, Δ'', hj, hg, he⟩ := ht i d o' h1 ho
        exact turn_all hj hg he) fm L O σ H Q W tk s (by rw [filterMap_some]; exact q)
/-- [elt for tg in iter if c] -/
theorem pr_lcIf {scope : Scope} {own : List (Str × Nat)} {tg iter elt : Expr} {items : List Dt} {sel : List (Option Dt)} (hc : X.calm = true) (hN : X.N.Nodup) (ok : BlkOk X.N X.env.scope scope own) (hi : PID X T Δ tg iter items) (hl : sel.length = items.length) (hz : items.length < sizeLine)
    (ht : ∀ (i : Nat) (d : Dt) (o : Option Dt), items[i]? = some d → sel[i]? = some o → ∃ js Δ'' k, (∀ j ∈ js, j ∈ own.map (·.2)) ∧ InBlk X scope (fun X' => GD X' T tg d js (wipeD Δ (own.map (·.2))) Δ'') ∧ InBlk X scope (fun X' => PTD X' T Δ'' c k) ∧ (k = true → ∃ d', o = some d' ∧ InBlk X scope (fun X' => PD X' T Δ'' elt d')) ∧ (k = false → o = none))
    (hfs : ∀ x, foldedSetIterable iter X.env x = pure x := by intro _; rfl) : PR X T Δ (.ListComp elt [⟨tg, iter, [c], 0⟩] scope pos) (.own (.lst (sel.filterMap id))) :=
  .of (pe_lc (g := canGb X scope tg) (tt := canTb X scope c) (te := canEb X scope elt) hc hN canI_ok ok (fun s H C cl fp => ⟨fun pins sh σ H v u Q I r h => h s _ C cl fp pins sh u I r⟩) (fun s H C cl fp => pts_one ⟨fun pins sh σ H Q I h => h s _ C cl fp pins sh I⟩) (fun s H C cl fp => ⟨fun pins sh σ H Q I h => h s _ C cl fp pins sh I⟩) hfs) fun fm L O σ H Q W tk s q =>
    lc_read hi hl hz (fun i d o h1 h2 => by
      obtain ⟨js, Δ'', k, hj, hg, hk, he, hn⟩ := ht i d o h1 h2
      exact turn_if hj hg hk he hn) fm L O σ H Q W tk s q
/-- name = [elt for tg in iter] -/
theorem psd_setLc (i : Nat) {y : Str} {py spos : Pos} {scope : Scope} {own : List (Str × Nat)} {tg iter elt : Expr} {items outs : List Dt} (hc : X.calm = true) (hN : X.N.Nodup) (ok : BlkOk X.N X.env.scope scope own) (hi : PID X T Δ tg iter items) (hl : outs.length = items.length) (hz : items.length < sizeLine)
    (ht : ∀ (i : Nat) (d o : Dt), items[i]? = some d → outs[i]? = some o → ∃ js Δ'', (∀ j ∈ js, j ∈ own.map (·.2)) ∧ InBlk X scope (fun X' => GD X' T tg d js (wipeD Δ (own.map (·.2))) Δ'') ∧ InBlk X scope (fun X' => PD X' T Δ'' elt o))
    (h : ∀ l, P.nx (Δ.set i (some (.own l false (.lst outs))))) (hil : i < Δ.length := by exact of_decide_eq_true rfl) (hy : X.N[i]? = some y := by rfl) (hyl : X.env.scope.names.lookup y = some .local := by rfl) (hsw : swapsWith (.ListComp elt [⟨tg, iter, [], 0⟩] scope pos) (some (.Name y py)) spos.line X.env = pure true := by exact sw_true rfl rfl rfl (by decide +kernel))
    (hfs : ∀ x, foldedSetIterable iter X.env x = pure x := by intro _; rfl) : PSD X T Δ (.Assign [.Name y py] (.ListComp elt [⟨tg, iter, [], 0⟩] scope pos) spos) P :=
  .of (ps_setLc (g := canGb X scope tg) (tt := tYes) (te := canEb X scope elt) hc hN hy hyl hsw canI_ok ok (fun s H C cl fp => ⟨fun pins sh σ H v u Q I r h => h s _ C cl fp pins sh u I r⟩) (fun _ _ _ _ _ => pts_nil) (fun s H C cl fp => ⟨fun pins sh σ H Q I h => h s _ C cl fp pins sh I⟩) hfs) fun fm L O σ H D W tk s em =>
    lc_read hi (sel := outs.map some) (by rw [List.length_map]; exact hl) hz (fun i d o h1 h2 => by
      rw [List.getElem?_map] at h2
      cases ho : outs[i]? with
      | none => rw [ho] at h2; cases h2
      | some o' =>
        rw [ho] at h2
        cases h2
        obtain ⟨js, Δ'', hj, hg, he⟩ := ht i d o' h1 ho
        exact turn_all hj hg he) fm L O σ H _ W tk s (by
      rw [filterMap_some]
      exact fun p H2 hp g s2 ow => em.nx (p :: O) _ H2 _ (h p) (s.own_set hp s2 hil ow))
theorem psd_setLcIf (i : Nat) {y : Str} {py spos : Pos} {scope : Scope} {own : List (Str × Nat)} {tg iter elt : Expr} {items : List Dt} {sel : List (Option Dt)} (hc : X.calm = true) (hN : X.N.Nodup) (ok : BlkOk X.N X.env.scope scope own) (hi : PID X T Δ tg iter items) (hl : sel.length = items.length) (hz : items.length < sizeLine)
    (ht : ∀ (i : Nat) (d : Dt) (o : Option Dt), items[i]? = some d → sel[i]? = some o → ∃ js Δ'' k, (∀ j ∈ js, j ∈ own.map (·.2)) ∧ InBlk X scope (fun X' => GD X' T tg d js (wipeD Δ (own.map (·.2))) Δ'') ∧ InBlk X scope (fun X' => PTD X' T Δ'' c k) ∧ (k = true → ∃ d', o = some d' ∧ InBlk X scope (fun X' => PD X' T Δ'' elt d')) ∧ (k = false → o = none))
    (h : ∀ l, P.nx (Δ.set i (some (.own l false (.lst (sel.filterMap id)))))) (hil : i < Δ.length := by exact of_decide_eq_true rfl) (hy : X.N[i]? = some y := by rfl) (hyl : X.env.scope.names.lookup y = some .local := by rfl) (hsw : swapsWith (.ListComp elt [⟨tg, iter, [c], 0⟩] scope pos) (some (.Name y py)) spos.line X.env = pure true := by exact sw_true rfl rfl rfl (by decide +kernel))
    (hfs : ∀ x, foldedSetIterable iter X.env x = pure x := by intro _; rfl) : PSD X T Δ (.Assign [.Name y py] (.ListComp elt [⟨tg, iter, [c], 0⟩] scope pos) spos) P :=
  .of (ps_setLc (g := canGb X scope tg) (tt := canTb X scope c) (te := canEb X scope elt) hc hN hy hyl hsw canI_ok ok (fun s H C cl fp => ⟨fun pins sh σ H v u Q I r h => h s _ C cl fp pins sh u I r⟩) (fun s H C cl fp => pts_one ⟨fun pins sh σ H Q I h => h s _ C cl fp pins sh I⟩) (fun s H C cl fp => ⟨fun pins sh σ H Q I h => h s _ C cl fp pins sh I⟩) hfs) fun fm L O σ H D W tk s em =>
    lc_read hi hl hz (fun i d o h1 h2 => by
      obtain ⟨js, Δ'', k, hj, hg, hk, he, hn⟩ := ht i d o h1 h2
      exact turn_if hj hg hk he hn) fm L O σ H _ W tk s (fun p H2 hp g s2 ow => em.nx (p :: O) _ H2 _ (h p) (s.own_set hp s2 hil ow))
end
end DL

set_option Elab.async false
set_option linter.all false
set_option maxRecDepth 100000
set_option maxHeartbeats 2000000
/-! DL7: what is one's own, read; defs called by name; facts for everyday side questions. -/
namespace DL
open PySem PySem.Spec L2

/-- data that no list and no dict stands in -/
def imt : Nat → Dt → Bool
  | _, .non => true
  | _, .bl _ => true
  | _, .int _ => true
  | _, .str _ => true
  | _, .ty _ => true
  | n + 1, .tup a => a.all (imt n)
  | _, _ => false
def imtR (n : Nat) : Res → Bool
  | .val d => imt n d
  | .own (.lst ds) => ds.all (imt n)
  | .own (.dk kds) => kds.all fun p => imt n p.2
  | .own (.dt kds) => kds.all fun p => imt n p.2
  | .own (.ins _ fs) => fs.all fun p => imt n p.2
  | .exc _ => true
section
variable {X : Cx} {T : List Addr} {Δ : DEnv} {e a b c : Expr} {es : List Expr} {d d1 d2 d3 : Dt} {ds : List Dt} {r : Res} {pos p : Pos} {st : Stmt} {rest sts : List Stmt} {P : DE}
variable {K : PySem.W.Frag} {fm : Fm} {L : Lk} {O : List Addr} {σ : St} {H H' : Hp} {Q : VK} {W : WX} {D : Ends} {π : List (V × Dt)}
/-- only the tuples matter -/
theorem Rp.imt {F F' : Hp} (h : ∀ a xs, F a = some (.tup xs) → F' a = some (.tup xs)) : ∀ (n : Nat) {v : V} {d : Dt}, Rp K F v d → DL.imt n d = true → Rp K F' v d := by
  intro n
  induction n with
  | zero =>
    intro v d hr hi
    cases hr with
    | non => exact .non
    | bl b => exact .bl b
    | int i => exact .int i
    | str s => exact .str s
    | ty n => exact .ty n
    | _ => cases hi
  | succ n ih =>
    intro v d hr hi
    cases hr with
    | non => exact .non
    | bl b => exact .bl b
    | int i => exact .int i
    | str s => exact .str s
    | ty n => exact .ty n
    | tup g hl hh =>
      have hi : _ := List.all_eq_true.mp (show List.all _ (DL.imt n) = true from hi)
      exact .tup (h _ _ g) hl fun i x d a b => ih (hh i x d a b) (hi d (List.mem_of_getElem? b))
    | _ => cases hi
theorem RpA.imt {F F' : Hp} {vs : List V} (h : ∀ a xs, F a = some (.tup xs) → F' a = some (.tup xs)) {n : Nat} (hr : RpA K F vs ds) (hi : ds.all (DL.imt n) = true) : RpA K F' vs ds :=
  ⟨hr.len, fun i x d a b => (hr.at_ i x d a b).imt h n (List.all_eq_true.mp hi d (List.mem_of_getElem? b))⟩
theorem OwAt.notTup {l : Addr} {o : Ow} {F : Hp} (h : OwAt K F H l o) : ∀ xs, H l ≠ some (.tup xs) := fun xs z => by
  obtain ⟨u, hu, mu⟩ := h.there
  rw [z] at hu
  cases hu
  exact mu
/-- an expression that reads one's own thing as data -/
theorem pr_view (i : Nat) {l : Addr} {o : Ow} (n : Nat) (hi : Δ[i]? = some (some (.own l false o))) (h : PR X T (Δ.set i (some (.imm o.d))) e r) (hr : imtR n r = true) : PR X T Δ e r :=
  ⟨fun fm L O σ H Q W tk s q => by
    obtain ⟨h1, h2, h3⟩ := s.ow hi
    have sf := s.freeze hi fun F hF le => h3.rp (mask_le H O) (fun _ => trivial) hF le
    obtain ⟨hlT, hlL, hl0⟩ := s.own i l false o hi
    have memO : ∀ a, a ∈ (O.filter fun a => decide (a ≠ l)) ↔ a ∈ O ∧ a ≠ l := fun a => by simp [List.mem_filter]
    have tups : ∀ {H2 : Hp}, Gr T H H2 → ∀ (O1 : List Addr) a xs, (∀ b ∈ O1, b ∉ T → False ∨ b ∈ O1) → mask H2 (O.filter fun a => decide (a ≠ l)) a = some (.tup xs) → mask H2 O a = some (.tup xs) := fun {H2} g O1 a xs _ e => by
      obtain ⟨e1, e2⟩ := mask_some e
      by_cases ha : a ∈ O
      · have : a = l := Classical.byContradiction fun z => e2 ((memO a).mpr ⟨ha, z⟩)
        subst this
        obtain ⟨u, hu, mu⟩ := h3.there
        rw [g a _ hlT hu] at e1
        cases e1
        exact mu.elim
      · rw [mask_out ha]; exact e1
    refine h.run fm L _ σ H Q W tk sf ?_
    cases r with
    | val d => exact fun v H2 g s2 rv => q v H2 g (s.gr g s2.tab) (rv.imt (fun a xs e => tups g [] a xs (fun _ z => nomatch z) e) n hr)
    | own o2 =>
      intro p H2 hp g s2 ow
      obtain ⟨u, hu, mu⟩ := ow.there
      have sh : Sta X.K T fm L (p :: O) σ H2 Δ := s.own_hide hp g s2.tab ow.held
      have lp : l ≠ p := fun z => (s.new_apart hp).1 (z ▸ h2)
      have tups2 : ∀ a xs, mask H2 (p :: O.filter fun a => decide (a ≠ l)) a = some (.tup xs) → mask H2 (p :: O) a = some (.tup xs) := fun a xs e => by
        obtain ⟨e1, e2⟩ := mask_some e
        have hap : a ≠ p := fun z => e2 (by rw [z]; exact List.mem_cons_self)
        have := tups g [] a xs (fun _ z => nomatch z) (by rw [mask_out fun z => e2 (List.mem_cons_of_mem _ z)]; exact e1)
        obtain ⟨e3, e4⟩ := mask_some this
        rw [mask_out fun z => (List.mem_cons.mp z).elim hap e4]
        exact e3
      refine q p H2 hp g sh ?_
      cases o2 with
      | lst ds => obtain ⟨vs, a, b⟩ := ow; exact ⟨vs, a, b.imt tups2 hr⟩
      | dk kds => obtain ⟨vs, a, b⟩ := ow; exact ⟨vs, a, b.keys, b.vals.imt tups2 (n := n) (by rw [List.all_map]; exact hr)⟩
      | dt kds => obtain ⟨vs, a, b⟩ := ow; exact ⟨vs, a, b.keys, b.vals.imt tups2 (n := n) (by rw [List.all_map]; exact hr)⟩
      | ins C fs => obtain ⟨dx, vs, a, b⟩ := ow; exact ⟨dx, vs, a, b.keys, b.vals.imt tups2 (n := n) (by rw [List.all_map]; exact hr)⟩
    | exc C => exact fun H2 g s2 => q H2 g (s.gr g s2.tab)⟩
theorem ptd_view (i : Nat) {l : Addr} {o : Ow} {k : Bool} (hi : Δ[i]? = some (some (.own l false o))) (h : PTD X T (Δ.set i (some (.imm o.d))) e k) : PTD X T Δ e k :=
  ⟨fun fm L O σ H Q W tk s q => by
    obtain ⟨h1, h2, h3⟩ := s.ow hi
    exact h.run fm L _ σ H Q W tk (s.freeze hi fun F hF le => h3.rp (mask_le H O) (fun _ => trivial) hF le) fun H2 g s2 => q H2 g (s.gr g s2.tab)⟩

/-- a statement, then the rest from a word between them -/
theorem psd_cut (M : DEnv → Prop) (h : PSD X T Δ st { P with nx := M }) (k : ∀ Δ', M Δ' → PSsD X T Δ' rest P) : PSsD X T Δ (st :: rest) P :=
  psd_cons ⟨fun fm L O σ H D W tk s em => h.run fm L O σ H D W tk s ⟨fun O σ H Δ m => em.nx O σ H Δ (k Δ m), em.rt, em.ro, em.bk, em.ct, em.ex⟩⟩
theorem pd_strE {x : Str} {l : List Nat} {j pos} (h : x.cps.toList = l) : PD X T Δ (.Constant (.str x) j pos) (.str l) := by rw [← h]; exact pd_str
theorem map_get2 {α : Type} {l : List α} {f : α → Dt} {g : α → Dt} {i : Nat} {d o : Dt} (h1 : (l.map f)[i]? = some d) (h2 : (l.map g)[i]? = some o) : ∃ x, l[i]? = some x ∧ d = f x ∧ o = g x := by
  rw [List.getElem?_map] at h1 h2
  cases h : l[i]? with
  | none => rw [h] at h1; cases h1
  | some x =>
    rw [h] at h1 h2
    cases h1; cases h2
    exact ⟨x, rfl, rfl, rfl⟩
theorem map_get {α : Type} {l : List α} {f : α → Dt} {i : Nat} {d : Dt} (h1 : (l.map f)[i]? = some d) : ∃ x, l[i]? = some x ∧ d = f x := by
  rw [List.getElem?_map] at h1
  cases h : l[i]? with
  | none => rw [h] at h1; cases h1
  | some x => rw [h] at h1; cases h1; exact ⟨x, rfl, rfl⟩
theorem rangeN_get2 {n i : Nat} {g : Nat → Dt} {d o : Dt} (h1 : (rangeN n)[i]? = some d) (h2 : ((List.range n).map g)[i]? = some o) : i < n ∧ d = .int ((i : Nat) : Int) ∧ o = g i := by
  obtain ⟨h3, h4⟩ := rangeN_get h1
  refine ⟨h3, h4, ?_⟩
  rw [List.getElem?_map, List.getElem?_range h3] at h2
  cases h2; rfl
theorem deq_lst {n : Nat} {a b : List Dt} : deq (n + 1) (.lst a) (.lst b) = (decide (a.length = b.length) && (a.zip b).all fun p => deq n p.1 p.2) := eqvAll_map
theorem deq_tup {n : Nat} {a b : List Dt} : deq (n + 1) (.tup a) (.tup b) = (decide (a.length = b.length) && (a.zip b).all fun p => deq n p.1 p.2) := eqvAll_map
theorem deq_lst_nil {n : Nat} {a : List Dt} : deq (n + 1) (.lst a) (.lst []) = a.isEmpty := by
  rw [deq_lst]
  cases a <;> simp
theorem gd_lst {n : Nat} {a : List Dt} (h : ∀ d ∈ a, gd n d = true) : gd (n + 1) (.lst a) = true := List.all_eq_true.mpr h
theorem gd_tup' {n : Nat} {a : List Dt} (h : ∀ d ∈ a, gd n d = true) : gd (n + 1) (.tup a) = true := List.all_eq_true.mpr h
theorem gd_str {n : Nat} {s : List Nat} (h : ∀ c ∈ s, c < 1000) : gd n (.str s) = true := by
  have : (s.all fun c => decide (c < 1000)) = true := List.all_eq_true.mpr fun c hc => decide_eq_true (h c hc)
  cases n <;> exact this
theorem gd_int {n : Nat} {i : Int} : gd n (.int i) = true := by cases n <;> rfl
theorem gd_non {n : Nat} : gd n .non = true := by cases n <;> rfl
theorem gd_bl {n : Nat} {b : Bool} : gd n (.bl b) = true := by cases n <;> rfl
theorem gd_up : ∀ (n : Nat) {d : Dt}, gd n d = true → gd (n + 1) d = true := by
  intro n
  induction n with
  | zero =>
    intro d h
    cases d with
    | tup a => cases h
    | lst a => cases h
    | _ => exact h
  | succ n ih =>
    intro d h
    cases d with
    | tup a => exact List.all_eq_true.mpr fun x hx => ih (List.all_eq_true.mp (show a.all (gd n) = true from h) x hx)
    | lst a => exact List.all_eq_true.mpr fun x hx => ih (List.all_eq_true.mp (show a.all (gd n) = true from h) x hx)
    | _ => exact h

/-! ### defs by name -/
structure Callee (P : Program) (w : World) (K : PySem.W.Frag) (mg : Str → Option Value) (base : Heap) (T : List Addr) (x : Str) (k : Nat) (ps : List Str) (Fn : List Dt → Res → Prop) : Prop where
  ex : ∃ f fd, FnD P w K mg base T k f fd ps Fn ∧ mg x = some (.ref f) ∧ PySem.W.keepIn K (.ref f) = true ∧ Binds K fd ps []
theorem pr_calln {x : Str} {ps : List Str} {k : Nat} {Fn : List Dt → Res → Prop} (G : Callee X.prog X.w X.K X.mg X.base T x k ps Fn) (hr : Room k X.A) (ha : PAD X T Δ (e :: es) ds) (hF : Fn ds r) (hlen : ds.length = ps.length := by rfl) (hg : Gl X x := by rfl) (hdb : (x == ("__debug__" : Str)) = false := by decide)
    (he : starEach (e :: es) X.env = (false, eval e X.env) :: starEach es X.env := by rfl) (hpl : (backTo pos (starEach es X.env)).any (·.1) = false := by rfl) : PR X T Δ (.Call (.Name x p) (e :: es) [] pos) r := by
  obtain ⟨f, fd, h1, h2, h3, h4⟩ := G.ex
  exact pr_call h1 hr h2 h3 h4 ha hF hlen hg hdb he hpl

theorem cm_l {i j : Int} (h1 : -(2 ^ 64) < i := by decide) (h2 : i < 2 ^ 64 := by decide) : CMul i j := .inl ⟨h1, h2⟩
theorem cm_r {i j : Int} (h1 : -(2 ^ 64) < j := by decide) (h2 : j < 2 ^ 64 := by decide) : CMul i j := .inr ⟨h1, h2⟩
theorem atI_getD {α : Type} {l : List α} {i : Int} (z : α) (h0 : 0 ≤ i) (h1 : i < l.length) : L2.atI l i = some (l.getD i.toNat z) := by
  obtain ⟨n, rfl⟩ : ∃ n : Nat, i = n := ⟨i.toNat, by omega⟩
  have hn : n < l.length := by omega
  rw [atI_nat (List.getElem?_eq_getElem hn)]
  simp [hn]
theorem dix_l {l : List Dt} {i : Int} (z : Dt) (h0 : 0 ≤ i) (h1 : i < l.length) : dIx (.lst l) i = some (l.getD i.toNat z) := atI_getD z h0 h1
theorem dix_map {α : Type} {l : List α} {f : α → Dt} {i : Int} {x : α} (h0 : 0 ≤ i) (hx : l[i.toNat]? = some x) : dIx (.lst (l.map f)) i = some (f x) := by
  have hn := (List.getElem?_eq_some_iff.mp hx).1
  rw [dix_l (f x) h0 (by rw [List.length_map]; omega)]
  simp [List.getD, hx]
theorem dix_ints {l : List Int} {i : Int} (h0 : 0 ≤ i) (h1 : i < l.length) : dIx (.lst (l.map .int)) i = some (.int (l.getD i.toNat 0)) := by
  rw [dix_l (.int 0) h0 (by simpa using h1)]
  have hn : i.toNat < l.length := by omega
  simp [List.getD, hn]
theorem dix_str {l : List Nat} {i : Int} (h0 : 0 ≤ i) (h1 : i < l.length) : dIx (.str l) i = some (.str [l.getD i.toNat 0]) := by
  show (L2.atI l i).map _ = _
  rw [atI_getD 0 h0 h1]
  rfl
theorem dix_strs {l : List (List Nat)} {i : Int} (h0 : 0 ≤ i) (h1 : i < l.length) : dIx (.lst (l.map .str)) i = some (.str (l.getD i.toNat [])) := by
  rw [dix_l (.str []) h0 (by simpa using h1)]
  have hn : i.toNat < l.length := by omega
  simp [List.getD, hn]
theorem dix_scr {l : List Int} {i : Int} (h0 : 0 ≤ i) (h1 : i < l.length) : dIx (.scr l) i = some (.int (l.getD i.toNat 0)) := by
  show (L2.atI l i).map _ = _
  rw [atI_getD 0 h0 h1]
  rfl
end
/-- the law's own promise -/
def spLaw (K : PySem.W.Frag) (T : List Addr) : Sp := fun vs H Q _ => (∀ P ∈ T, GxR.TabG H P) ∧ ∃ (a : Addr) (ns : List Int), vs = [.ref a] ∧ SqL K H a (ns.map V.int) ∧ ns.length ≤ 63 ∧ ∀ H', Q (.bl true) H'
inductive LawF : List Dt → Res → Prop where
  | mk (ns : List Int) (h : ns.length ≤ 63) : LawF [.scr ns] (.val (.bl true))
theorem sp_of_law {K : PySem.W.Frag} {T : List Addr} (vs : List V) (H : Hp) (Q : VK) (E : XK) (h : spLaw K T vs H Q E) : spF T K 1 LawF vs H Q E := by
  obtain ⟨ht, a, ns, rfl, hs, hl, q⟩ := h
  refine ⟨rfl, T, [.scr ns], .val (.bl true), ⟨fun _ h => h, ht, fun P hP => ?_⟩, .cons (.scr ?_) .nil, ?_, fun v H2 _ _ rv => ?_⟩
  · obtain ⟨ps, e, _⟩ := ht P hP
    exact .of e fun _ z => nomatch z
  · rcases hs with (hs | ⟨o, hs⟩) | hs
    · refine .inl (.inl ?_)
      rw [mask_out fun z => ?_]
      · exact hs
      · obtain ⟨ps, e, _⟩ := ht a z
        rw [hs] at e; cases e
    · refine .inl (.inr ⟨o, ?_⟩)
      rw [mask_out fun z => ?_]
      · exact hs
      · obtain ⟨ps, e, _⟩ := ht a z
        rw [hs] at e; cases e
    · exact .inr hs
  · exact .mk ns hl
  · rw [rv.bl_of]
    exact q H2
end DL

set_option Elab.async false
set_option linter.all false
set_option maxRecDepth 100000
set_option maxHeartbeats 2000000
/-! LM: what the laws' own helpers make, as functions. -/
namespace LM
open PySem PySem.Spec L2 DL

/-- a rule -/
structure Rl where
  s : Int
  g : Nat
  t : Int
  p : List Nat
def rlD (r : Rl) : Dt := .tup [.int r.s, .str [r.g], .int r.t, .str r.p]
def cell (ns : List Int) (k : Nat) : Int := ns.getD k 0
def abc : List Nat := (List.range 26).map (97 + ·)
def sgn (c : Int) : Nat := abc.getD (c % 26).toNat 0
def sg3 (c : Int) : List Nat := [sgn c, sgn (c + 1 + c / 26 % 12), sgn (c + 13 + c / 312 % 12)]
def mixed (c : Int) (k : Nat) : Int := (c + 7919 * (k : Int) * (k : Int) + 104729 * (k : Int)) * 48271 % 2147483647 * 69621 % 2147483629
def some5 (l : List Nat) : List Nat := [l.getD 0 0, l.getD 0 0, l.getD 1 0, l.getD 1 0, l.getD 2 0]
def pushN (c : Int) : Nat := ([0, 0, 1, 1, 1, 2, 2, 2] : List Nat).getD (c / 125 % 8).toNat 0
def lawRl (c many : Int) (l : List Nat) : Rl where
  s := c % many
  g := (some5 l).getD (c / 5 % 5).toNat 0
  t := c / 25 % many
  p := (List.range (pushN c)).map fun (k : Nat) => (some5 l).getD (c / (1000 + 4000 * (k : Int)) % 5).toNat 0
theorem pushN_le (c : Int) : pushN c ≤ 2 := by
  unfold pushN
  have h0 : 0 ≤ c / 125 % 8 := Int.emod_nonneg _ (by decide)
  have h1 : c / 125 % 8 < 8 := Int.emod_lt_of_pos _ (by decide)
  generalize (c / 125 % 8) = i at *
  obtain ⟨n, rfl⟩ : ∃ n : Nat, i = n := ⟨i.toNat, by omega⟩
  have hn : n < 8 := by omega
  match n, hn with
  | 0, _ => decide
  | 1, _ => decide
  | 2, _ => decide
  | 3, _ => decide
  | 4, _ => decide
  | 5, _ => decide
  | 6, _ => decide
  | 7, _ => decide
theorem lawRl_p (c many : Int) (l : List Nat) : (lawRl c many l).p.length ≤ 2 := by
  unfold lawRl
  simp only [List.length_map, List.length_range]
  exact pushN_le c
theorem sgn_lt (c : Int) : 97 ≤ sgn c ∧ sgn c < 123 := by
  unfold sgn abc
  have h0 : 0 ≤ c % 26 := Int.emod_nonneg _ (by decide)
  have h1 : c % 26 < 26 := Int.emod_lt_of_pos _ (by decide)
  generalize (c % 26) = i at *
  obtain ⟨n, rfl⟩ : ∃ n : Nat, i = n := ⟨i.toNat, by omega⟩
  have hn : n < 26 := by omega
  simp [List.getD, hn]
  try omega
theorem some5_mem {l : List Nat} {P : Nat → Prop} (h0 : P (l.getD 0 0)) (h1 : P (l.getD 1 0)) (h2 : P (l.getD 2 0)) (hz : P 0 ∨ True) (i : Nat) (hi : i < 5) : P ((some5 l).getD i 0) := by
  match i, hi with
  | 0, _ => exact h0
  | 1, _ => exact h0
  | 2, _ => exact h1
  | 3, _ => exact h1
  | 4, _ => exact h2
/-- one step of a machine -/
def stepD (r : Rl) (a : Int) (pl : List Nat) : Dt := if a = r.s ∧ pl.head? = some r.g then .tup [.int r.t, .str (r.p ++ pl.tail)] else .non
/-- a text of small signs -/
def OkS (l : List Nat) : Prop := ∀ c ∈ l, c < 1000
structure RlOk (r : Rl) : Prop where
  g : r.g < 1000
  p : OkS r.p
  l : r.p.length ≤ 2
theorem gd_rlD {r : Rl} (h : RlOk r) : gd 2 (rlD r) = true := gd_tup' fun d hd => by
  rcases List.mem_cons.mp hd with z | hd
  · rw [z]; exact gd_int
  rcases List.mem_cons.mp hd with z | hd
  · rw [z]; exact gd_str fun c hc => by rw [List.mem_singleton.mp hc]; exact h.g
  rcases List.mem_cons.mp hd with z | hd
  · rw [z]; exact gd_int
  · rw [List.mem_singleton.mp hd]; exact gd_str h.p
theorem ok_sg3 (c : Int) : OkS (sg3 c) := fun x hx => by
  unfold sg3 at hx
  have h := fun c => (sgn_lt c).2
  rcases List.mem_cons.mp hx with z | hx
  · rw [z]; have := h c; omega
  rcases List.mem_cons.mp hx with z | hx
  · rw [z]; have := h (c + 1 + c / 26 % 12); omega
  · rw [List.mem_singleton.mp hx]; have := h (c + 13 + c / 312 % 12); omega
theorem getD_ok {l : List Nat} (h : OkS l) (i : Nat) : l.getD i 0 < 1000 := by
  rw [List.getD_eq_getElem?_getD]
  cases e : l[i]? with
  | none => decide
  | some x => exact h x (List.mem_of_getElem? e)
theorem some5_ok {l : List Nat} (h : OkS l) : OkS (some5 l) := fun x hx => by
  unfold some5 at hx
  simp only [List.mem_cons, List.not_mem_nil, or_false] at hx
  rcases hx with z | z | z | z | z <;> (rw [z]; exact getD_ok h _)
theorem lawRl_ok {c many : Int} {l : List Nat} (h : OkS l) : RlOk (lawRl c many l) :=
  ⟨getD_ok (some5_ok h) _, fun x hx => by
    obtain ⟨k, _, rfl⟩ := List.mem_map.mp hx
    exact getD_ok (some5_ok h) _, lawRl_p c many l⟩
/-- does the rule go -/
def goes (r : Rl) (a : Int) (pl : List Nat) : Bool := decide (a = r.s) && decide (pl.head? = some r.g)
def behind (r : Rl) (pl : List Nat) : Dt := .tup [.int r.t, .str (r.p ++ pl.tail)]
theorem stepD_eq (r : Rl) (a : Int) (pl : List Nat) : stepD r a pl = if goes r a pl = true then behind r pl else .non := by
  unfold stepD goes behind
  by_cases h1 : a = r.s <;> by_cases h2 : pl.head? = some r.g <;> simp [h1, h2]
/-- the pairs of number and spot behind, of the first n rules -/
def nextsUp (rs : List Rl) (a : Int) (pl : List Nat) (n : Nat) : List Dt := (List.range n).flatMap fun i => match rs[i]? with
  | some r => if goes r a pl = true then [.tup [.int ((i : Nat) : Int), behind r pl]] else []
  | none => []
theorem nextsUp_succ {rs : List Rl} {a : Int} {pl : List Nat} {i : Nat} {r : Rl} (h : rs[i]? = some r) : nextsUp rs a pl (i + 1) = nextsUp rs a pl i ++ if goes r a pl = true then [.tup [.int ((i : Nat) : Int), behind r pl]] else [] := by
  unfold nextsUp
  rw [List.range_succ, List.flatMap_append]
  simp [h]
theorem nextsUp_len (rs : List Rl) (a : Int) (pl : List Nat) (n : Nat) : (nextsUp rs a pl n).length ≤ n := by
  induction n with
  | zero => exact Nat.le_refl _
  | succ n h =>
    have e : nextsUp rs a pl (n + 1) = nextsUp rs a pl n ++ (match rs[n]? with
      | some r => if goes r a pl = true then [.tup [.int ((n : Nat) : Int), behind r pl]] else []
      | none => []) := by
      unfold nextsUp
      rw [List.range_succ, List.flatMap_append]
      simp only [List.flatMap_cons, List.flatMap_nil, List.append_nil]
    rw [e, List.length_append]
    have : (match rs[n]? with
      | some r => if goes r a pl = true then [Dt.tup [.int ((n : Nat) : Int), behind r pl]] else []
      | none => ([] : List Dt)).length ≤ 1 := by
      split
      · split <;> simp
      · simp
    omega
theorem nextsUp_mem {rs : List Rl} {a : Int} {pl : List Nat} {n : Nat} {d : Dt} (h : d ∈ nextsUp rs a pl n) : ∃ (i : Nat) (r : Rl), rs[i]? = some r ∧ goes r a pl = true ∧ d = .tup [.int ((i : Nat) : Int), behind r pl] := by
  unfold nextsUp at h
  obtain ⟨i, hi, hd⟩ := List.mem_flatMap.mp h
  split at hd
  · rename_i r hr
    split at hd
    · rename_i hg
      exact ⟨i, r, hr, hg, List.mem_singleton.mp hd⟩
    · cases hd
  · cases hd
theorem ok_app {a b : List Nat} (h : OkS a) (k : OkS b) : OkS (a ++ b) := fun c hc => (List.mem_append.mp hc).elim (h c) (k c)
theorem ok_tail {a : List Nat} (h : OkS a) : OkS a.tail := fun c hc => h c (List.mem_of_mem_tail hc)
theorem gd_behind {r : Rl} {pl : List Nat} (h : RlOk r) (k : OkS pl) : gd 1 (behind r pl) = true := gd_tup' fun d hd => by
  rcases List.mem_cons.mp hd with z | hd
  · rw [z]; exact gd_int
  · rw [List.mem_singleton.mp hd]; exact gd_str (ok_app h.p (ok_tail k))
theorem gd_nexts {rs : List Rl} {a : Int} {pl : List Nat} {n : Nat} (h : ∀ r ∈ rs, RlOk r) (k : OkS pl) : gd 3 (.lst (nextsUp rs a pl n)) = true := gd_lst fun d hd => by
  obtain ⟨i, r, hr, _, rfl⟩ := nextsUp_mem hd
  refine gd_tup' fun e he => ?_
  rcases List.mem_cons.mp he with z | he
  · rw [z]; exact gd_int
  · rw [List.mem_singleton.mp he]; exact gd_behind (h r (List.mem_of_getElem? hr)) k
end LM

set_option Elab.async false
set_option linter.all false
set_option maxRecDepth 100000
set_option maxHeartbeats 2000000
/-! GX: all of a generator expression whose element is any expression of ours. -/
namespace GX
open PySem PySem.Spec PyProof.Rows L2

/-- the names of a generator's scope -/
structure GOk (N : List Str) (sc scope : Scope) (own : List (Str × Nat)) : Prop where
  kind : scope.kind = .function
  co : scope.isCoroutine = false
  cell : ∀ y ∈ scope.names, y.2 ≠ .cell
  dot : scope.names.lookup (".0" : Str) = some NameKind.local
  uniq : ∀ y ∈ scope.names, scope.names.lookup y.1 = some y.2
  ix : ∀ p ∈ own, N[p.2]? = some p.1
  free : ∀ y ∈ scope.names, y.2 = .free → sc.names.lookup y.1 = some .cell ∨ sc.names.lookup y.1 = some .free
  own : ∀ y ∈ scope.names, y.2 = .local → y.1 ∈ own.map (·.1) ∨ y.1 ∉ N
abbrev gEnv (X : Cx) (scope : Scope) (C : Addr) (code : Value) : Env := genEnv scope (cloFrom X.env.cells scope.names []) C code builtinsNs X.env
/-- the context of a generator's frame -/
abbrev gX (X : Cx) (s : Shared) (H : Hp) (scope : Scope) (C : Addr) (code : Value) (fp : List Addr) : Cx :=
  { X with A := X.A.in1.in1.deeper (gEnv X scope C code), s_0 := s, H_0 := H, env := gEnv X scope C code, outer := X.stack, stack := gEnv X scope C code :: X.stack, ex := fp, fn := fun _ => false, calm := true, pn := [], xe := fun _ _ => False }
section
variable {X : Cx} {pins : List (Addr × Obj)} {σ : L2.St} {H : Hp} {s s' : Shared}

theorem inv_sim (I : Inv X pins σ H s) (ho : s'.os = s.os) (hg : AllBare s'.gens) (k : ∀ b o, s.heap.get? b = some o → s'.heap.get? b = some o) : Inv X pins σ H s' := by
  have J := I.step (h' := s'.heap) (H' := H) (g' := s'.gens) (d' := s'.drawn) (t' := s'.toks) (ch := []) (fun b hb => absurd hb (by simp)) (fun b o _ _ _ e _ => k b o e) (fun b o _ _ _ e _ => ⟨o.slots, k b o e⟩)
    (fun _ _ _ _ n => n) (fun b o _ e => ⟨o, k b o e⟩) (fun _ _ e => e) (fun _ _ _ e => e) (fun b ps e => ⟨#[], by rw [e]; simp⟩) (fun m hm => hm.keeps k) (I.hok.kept k) hg
  rw [GxR.sh_eta s s' ho] at J
  exact J
theorem bare_set {g : Nat} {x : GenState} (h : AllBare s.gens) (hx : x.bare = true) : AllBare (s.setGen g x).gens := by
  intro y hy
  obtain ⟨i, hi⟩ := Array.mem_iff_getElem?.mp hy
  simp only [Shared.setGen, Array.getElem?_setIfInBounds] at hi
  split at hi
  · split at hi
    · cases hi; exact hx
    · cases hi
  · exact h y (Array.mem_of_getElem? hi)
theorem inv_set {g : Nat} {x : GenState} (I : Inv X pins σ H s) (hx : x.bare = true) : Inv X pins σ H (s.setGen g x) := inv_sim I rfl (bare_set I.bare hx) fun _ _ e => e

/-- the generator's frame stands -/
theorem gen_start {scope : Scope} {own : List (Str × Nat)} {fp : List Addr} {it code : Value} {h' : Heap} {go : Obj} {gs : GenState} {tk : Nat} (I : Inv X pins σ H s) (hd : X.A.handled = none) (ok : GOk X.N X.env.scope scope own) (hN : X.N.Nodup) (hfp : ∀ b ∈ fp, FpOk X pins H b ∧ b < s.heap.objs.size)
    (hn : h'.Ns s.heap.objs.size (fun y => if y = ".0" then some it else none)) (hs : Heap.SameBut s.heap.objs.size (s.heap.push { cls := .type "frame", data := .dict #[] }) h') (hgo : ∀ v, go.data ≠ .cell v) (hgf : go.isFreed = false) (hb : gs.bare = true) :
    Inv (gX X s H scope s.heap.objs.size code fp) [(h'.objs.size, go)] (wipe σ (own.map (·.2))) H { s with gens := s.gens.push gs, toks := tk, heap := h'.push go } := by
  have hfree : ∀ y ∈ scope.names, y.2 = .free → ∃ c, X.env.cells.lookup y.1 = some c := fun y hy e => by
    rcases ok.free y hy e with k | k
    · exact I.ok.has _ (.inl k)
    · exact I.ok.has _ (.inr k)
  generalize hcenv : gEnv X scope s.heap.objs.size code = cenv
  have hsz : h'.objs.size = s.heap.objs.size + 1 := by rw [hs.1, Heap.size_push]
  have kp0 : ∀ b o, s.heap.get? b = some o → h'.get? b = some o := fun b o e => hs.extBut b o (Nat.ne_of_lt (Heap.lt_size e)) (Heap.get?_push_of_some _ e)
  have kp : ∀ b o, s.heap.get? b = some o → (h'.push go).get? b = some o := fun b o e => Heap.get?_push_of_some _ (kp0 b o e)
  have hL : cenv.locals = s.heap.objs.size := by rw [← hcenv]; rfl
  have hcl : cenv.cells = cloFrom X.env.cells scope.names [] := by rw [← hcenv]; rfl
  have hsc : cenv.scope = scope := by rw [← hcenv]; rfl
  have cm : ∀ {y c}, (y, c) ∈ cloFrom X.env.cells scope.names [] → X.env.cells.lookup y = some c ∧ c < s.heap.objs.size := fun {y c} hm => by
    rcases cloFrom_mem hm with hm | ⟨h1, rfl⟩
    · cases hm
    · obtain ⟨c, hc⟩ := hfree _ h1 rfl
      rw [hc]
      obtain ⟨w, z⟩ := I.cell _ _ hc
      exact ⟨rfl, z.lt⟩
  have mem : ∀ {y c}, cenv.cells.lookup y = some c → X.env.cells.lookup y = some c ∧ c < s.heap.objs.size := fun {y c} e => by
    rw [hcl] at e
    exact cm (PySem.mem_of_lookup e)
  have look : ∀ {y}, scope.names.lookup y = some .free → ∃ c, cenv.cells.lookup y = some c ∧ X.env.cells.lookup y = some c := fun {y} hl => by
    have hy : (y, NameKind.free) ∈ scope.names := PySem.mem_of_lookup hl
    obtain ⟨c', e'⟩ := mem_lookup (cloFrom_has (cells := X.env.cells) (acc := []) hy)
    rw [← hcl] at e'
    exact ⟨c', e', (mem e').1⟩
  have okB : (gX X s H scope s.heap.objs.size code fp).Ok := by
    show Cx.Ok { X with A := X.A.in1.in1.deeper (gEnv X scope s.heap.objs.size code), s_0 := s, H_0 := H, env := gEnv X scope s.heap.objs.size code, outer := X.stack, stack := gEnv X scope s.heap.objs.size code :: X.stack, ex := fp, fn := fun _ => false, calm := true, pn := [], xe := fun _ _ => False }
    rw [hcenv]
    refine ⟨I.ok.mod, by show cenv.scope.kind = _; rw [hsc]; exact ok.kind, by show cenv.globals = _; rw [← hcenv]; exact I.ok.glob, by show cenv.builtins = _; rw [← hcenv]; rfl, by show s.heap.objs.size ≤ cenv.locals; rw [hL]; exact Nat.le_refl _,
      fun y z c e1 e2 => ?_, fun y hy => ?_, (fun y c z e => nomatch z), fun _ => hd, ?_, .inr ⟨rfl, by rw [← hcenv]; rfl⟩, fun b hb => ⟨?_, fun y c e z => ?_⟩, I.bs, Nat.le_trans I.ok.bsz I.sz, fun b o e hb => ?_, fun b hb z => ?_, I.stack, I.stkFree⟩
    · exact I.ok.inj y z c (mem e1).1 (mem e2).1
    · show ∃ c, cenv.cells.lookup y = some c
      rcases hy with hy | hy
      · exfalso
        have hy : cenv.scope.names.lookup y = some .cell := hy
        rw [hsc] at hy
        exact ok.cell _ (PySem.mem_of_lookup hy) rfl
      · have hy : cenv.scope.names.lookup y = some .free := hy
        rw [hsc] at hy
        obtain ⟨c, h1, _⟩ := look hy
        exact ⟨c, h1⟩
    · show pushEnvs [cenv] X.A.frames = some (cenv :: X.stack)
      rw [I.ok.frames]
      rfl
    · show b ≠ cenv.locals
      rw [hL]; exact Nat.ne_of_lt (hfp b hb).2
    · exact (hfp b hb).1.2.2.2.2.1 y c (mem e).1 z
    · rcases (hfp b hb).1.2.2.2.1 with z | z
      · exact I.ok.noex b o e z
      · exact absurd (Nat.lt_of_lt_of_le (Heap.lt_size e) (Nat.le_trans I.ok.bsz z)) (Nat.lt_irrefl _)
    · rcases List.mem_cons.mp (I.stkSub b z) with z | z
      · exact (hfp b hb).1.2.1 z
      · exact (hfp b hb).1.2.2.1 z
  have hcenv2 : gEnv X scope s.heap.objs.size code = cenv := hcenv
  refine ⟨okB, rfl, I.bare.push hb, Un.kept kp, ⟨_, hn.push _, fun i y av e1 e2 e3 => ?_⟩, fun y c e => ?_, ?_, fun y c e => ?_, fun p hp => ?_, I.hok.kept kp, by rw [wipe_length]; exact I.len⟩
  · obtain ⟨e2, hne⟩ := wipe_some e2
    have e3 : Vis scope y := e3
    have hfr : scope.names.lookup y = some .free := by
      rcases e3 with e3 | e3 | e3
      · exfalso
        rcases ok.own _ (PySem.mem_of_lookup e3) rfl with e' | e'
        · obtain ⟨p, hp, hpy⟩ := List.mem_map.mp e'
          have e4 := ok.ix p hp
          have : p.1 = y := hpy
          rw [this] at e4
          exact hne (List.mem_map.mpr ⟨p, hp, nodup_ix hN e4 e1⟩)
        · exact e' (List.mem_of_getElem? e1)
      · exact absurd rfl (ok.cell _ (PySem.mem_of_lookup e3))
      · exact e3
    obtain ⟨m, hn', hl⟩ := I.loc
    have hvis : Vis X.env.scope y := (ok.free _ (PySem.mem_of_lookup hfr) rfl).elim (fun k => .inr (.inl k)) (fun k => .inr (.inr k))
    obtain ⟨w, r, q⟩ := hl i y av e1 e2 hvis
    refine ⟨w, r, .inr ⟨.inr hfr, ?_⟩⟩
    obtain ⟨c, h1, h2⟩ := look hfr
    rcases q with ⟨k, _⟩ | ⟨_, c', e', z⟩
    · have k : X.env.scope.names.lookup y = some .local := k
      rcases ok.free _ (PySem.mem_of_lookup hfr) rfl with k' | k' <;> rw [show X.env.scope.names.lookup y = _ from k'] at k <;> cases k
    · rw [h2] at e'; cases e'
      exact ⟨c, by rw [← hcenv] at h1; exact h1, z.keeps kp⟩
  · obtain ⟨h1, _⟩ := mem (y := y) (c := c) (by rw [← hcenv]; exact e)
    obtain ⟨w, z⟩ := I.cell y c h1
    exact ⟨w, z.keeps kp⟩
  · exact I.hok.fresh (Nat.le_refl _)
  · obtain ⟨h1, _⟩ := mem (y := y) (c := c) (by rw [← hcenv]; exact e)
    exact I.freeC y c h1
  · have hp : p ∈ [(h'.objs.size, go)] := hp
    rw [List.mem_singleton.mp hp]
    refine ⟨Heap.get?_push_size _ hgf, I.hok.fresh (by rw [hsz]; exact Nat.le_succ _), ?_, fun z => ?_, hgo⟩
    · show h'.objs.size ≠ s.heap.objs.size
      rw [hsz]; exact Nat.succ_ne_self _
    · have z : h'.objs.size ∈ frs X.stack := z
      rcases List.mem_cons.mp (I.stkSub _ z) with z | z
      · have := I.lt
        rw [← z, hsz] at this
        exact absurd this (Nat.not_lt_of_le (Nat.le_succ _))
      · exact I.nofs (by rw [hsz]; exact Nat.le_succ _) z

/-- what is wanted of all(elt for tg in iter) -/
def tAllG (P : Addr) (wi : TI) (g : TG) (te : TE) (vs : List Nat) : TE := fun σ H Q => wi σ H fun J H1 => GxR.TabG H1 P ∧ ∀ H2, GxR.Tabbed P H1 H2 → ∃ W : Nat → Nat → Hp → Prop, (∃ m, W 0 m H2) ∧ ∀ i m H, W i m H →
  (J.stop i H ∧ Q (.bl true) H) ∨ (J.go i H ∧ ∃ Nx : Hp → Prop, (∀ H', Nx H' → ∃ m', m' < m ∧ W (i + 1) m' H') ∧ ∀ x H', J.yld i H x H' → g x (wipe σ vs) H' fun σ2 H2 => wipe σ2 vs = wipe σ vs ∧ te σ2 H2 fun y H3 => ∃ b, y = .bl b ∧ if b = true then Nx H3 else Q (.bl false) H3)

abbrev gCode (elt tg iter : Expr) (scope : Scope) (gpos : Pos) (it : Addr) (cenv : Env) : Code := .compLoop (.GeneratorExp elt [⟨tg, iter, [], 0⟩] scope gpos) 0 (.ref it) .none cenv
/-- the end of the generator, a value from it -/
def gR (Xg : Cx) (pins : List (Addr × Obj)) (σ : L2.St) (Q : VK) : GenEnd := fun _ _ r s => r = .ok .next ∧ ∃ H, Inv Xg pins σ H s ∧ Q (.bl true) H
def gY (Xg : Cx) (pins : List (Addr × Obj)) (σ : L2.St) (Q : VK) : Protocol := fun _ _ v s kap => ∃ b, v = .bool b ∧ ∃ H, Inv Xg pins σ H s ∧ (b = false → Q (.bl false) H) ∧
  (b = true → ∀ s'' : Shared, s''.os = s.os → AllBare s''.gens → (∀ b o, s.heap.get? b = some o → s''.heap.get? b = some o) → kap (.send .none) s'')

theorem seg_all {Xg : Cx} {Ag : Around} {elt tg iter : Expr} {scope : Scope} {gpos : Pos} {it : Addr} {fp : List Addr} {tn : Nat → Heap → Prop} {J : It} {g : TG} {te : TE} {vs : List Nat} {W : Nat → Nat → Hp → Prop} {Q : VK} {s_ : L2.St}
    (hA : Xg.A = Ag.over (gCode elt tg iter scope gpos it Xg.env) []) (hc : Xg.calm = true) (hxe : Xg.xe = fun _ _ => False) (hco : Xg.env.scope.isCoroutine = false) (hpn : Xg.pn = []) (hex : Xg.ex = fp) (T : Turn Xg.prog Xg.w Xg.K tg J fp it tn) (pg : PG Xg tg g) (pe : PE Xg elt te)
    (hpf : ∀ p ∈ pins, ∀ b ∈ fp, p.1 ≠ b)
    (turn : ∀ i m H, W i m H → (J.stop i H ∧ Q (.bl true) H) ∨ (J.go i H ∧ ∃ Nx : Hp → Prop, (∀ H', Nx H' → ∃ m', m' < m ∧ W (i + 1) m' H') ∧ ∀ x H', J.yld i H x H' → g x (wipe s_ vs) H' fun σ2 H2 => wipe σ2 vs = wipe s_ vs ∧ te σ2 H2 fun y H3 => ∃ b, y = .bl b ∧ if b = true then Nx H3 else Q (.bl false) H3)) :
    ∀ (n i m : Nat) (H : Hp) (s₀ s : Shared), m < n → W i m H → Inv Xg pins (wipe s_ vs) H s → tn i s.heap → (∀ b ∈ fp, H b = none) →
      Seg (model Xg.prog Xg.w) Ag (gR Xg pins (wipe s_ vs) Q) (gY Xg pins (wipe s_ vs) Q) n s₀ (gCode elt tg iter scope gpos it Xg.env) ((model Xg.prog Xg.w).den (gCode elt tg iter scope gpos it Xg.env)) [] s := by
  have stat : ∀ {σ' : L2.St} {H' : Hp} {s' : Shared}, Inv Xg pins σ' H' s' → (∀ b ∈ fp, H' b = none) → ∀ b ∈ fp, FpOk Xg pins H' b := fun {σ' H' s'} I' hn b hb =>
    ⟨hn b hb, (I'.ok.exf b (by rw [hex]; exact hb)).1, I'.ok.exfs b (by rw [hex]; exact hb), .inl (by rw [hex]; exact hb), fun x c e => (I'.ok.exf b (by rw [hex]; exact hb)).2 x c e, fun p hp => by
      rw [hpn] at hp
      exact hpf p hp b hb⟩
  have noE : ∀ {α : Type} {t : Sem α} {Q1 Q2 : α → Shared → Prop} {A : Around} {E : Value → Shared → Prop} {s : Shared}, wpAny (model Xg.prog Xg.w) A t Q1 Xg.xe s → (∀ a s, Q1 a s → Q2 a s) → wpAny (model Xg.prog Xg.w) A t Q2 E s := fun h k => wpAny_mono h k fun _ _ z => by
    rw [hxe] at z
    exact z.elim
  intro n
  induction n with
  | zero => intro i m H s₀ s hm; exact absurd hm (Nat.not_lt_zero _)
  | succ n ih =>
    intro i m H s₀ s hm hw I st nf
    show Seg _ Ag _ _ _ s₀ _ ((compTurn (.GeneratorExp elt [⟨tg, iter, [], 0⟩] scope gpos) 0 (.ref it) .none Xg.env).onRaise (leaving Xg.env)) [] s
    rw [compTurn_gen, Sem.onRaise_eq_wrap]
    refine seg_bind_wrap (wpAny_standAt ?_)
    rcases turn i m H hw with ⟨stop, qq⟩ | ⟨go, Nx, hNx, step⟩
    · have td := T.done Xg rfl rfl rfl hc i pins s _ H (fun _ _ => False) I (stat I nf) st stop
      rw [hA] at td
      refine seg_bind_wrap (thnF td fun r s1 ⟨hr, I1⟩ => ?_)
      subst hr
      exact seg_end (.ok .next) ⟨rfl, H, I1, qq⟩
    · have ti := T.item Xg rfl rfl rfl hc i pins s _ H (fun _ _ => False) I (stat I nf) st go
      rw [hA] at ti
      refine seg_bind_wrap (thnF ti fun r s1 ⟨u, hr, h6⟩ => ?_)
      subst hr
      refine seg_bind_wrap (thnF h6 fun _ s2 ⟨x, H7, I7, r7, y7, st7, n7⟩ => ?_)
      have I7' := I7.pinned (stat I7 n7) (T.obj _ _ st7)
      have ag := pg.run _ s2 _ H7 x u _ I7' r7 (step x H7 y7)
      rw [hA] at ag
      refine seg_bind_wrap (noE ag fun _ s3 ⟨σ8, H8, I8, hw8, q8⟩ => ?_)
      refine seg_bind_wrap ?_
      simp only [List.forIn_nil]
      refine wpAny_pure ?_
      simp only [if_true]
      have hy : ∀ v, yieldOut Xg.env v = yieldValue v := fun v => by simp only [yieldOut, hco, Bool.false_eq_true, if_false]
      simp only [hy]
      rw [Sem.bind_eq_wrap', Sem.bind_eq_wrap', Sem.wrap_wrap, Sem.wrap_wrap]
      have ae := pe.run _ s3 σ8 H8 _ I8 q8
      rw [hA] at ae
      refine seg_wrap (noE ae fun y s4 ⟨yv, H9, I9, r9, q9⟩ => ?_)
      obtain ⟨b, rfl, q9⟩ := q9
      have ry : y = .bool b := r9
      subst ry
      have hl : (wipe s_ vs).length = σ8.length := by rw [← hw8, wipe_length]
      have Iw : Inv Xg pins (wipe s_ vs) H9 s4 := I9.unpinned.weak hl (fun j v e => ?wk)
      case wk =>
        rw [← hw8] at e
        exact (wipe_some e).1
      have pin' : ∀ b ∈ fp, ∀ o, s2.heap.get? b = some o → s4.heap.get? b = some o ∧ H9 b = none := fun b hb o e =>
        let z := I9.pin (b, o) (List.mem_append_right _ (List.mem_append_right _ (mem_pinsAt hb e)))
        ⟨z.1, z.2.1⟩
      refine seg_at (seg_yield rfl rfl rfl ⟨b, rfl, H9, Iw, fun hb => ?_, fun hb s'' ho hg hk => ?_⟩)
      · subst hb
        exact q9
      · subst hb
        obtain ⟨m', hm', w'⟩ := hNx H9 q9
        refine seg_again rfl (ih (i + 1) m' H9 s'' s'' (by omega) w' (inv_sim Iw ho hg hk) (T.keep _ _ _ st7 fun b hb o e => hk b o (pin' b hb o e).1) fun b hb => ?_)
        obtain ⟨o, e, _⟩ := T.obj _ _ st7 b hb
        exact (pin' b hb o e).2

/-- all's loop over the generator at a -/
theorem all_loop {Xg : Cx} {A : Around} {σ' : L2.St} {R : Result → Shared → Prop} {Q : VK} {a : Addr} {g : Nat} (hh : A.handled = none) (hroom : A.depth < recursionLimit)
    (hgen : ∀ H s, Inv Xg pins σ' H s → s.heap.IsGen a g)
    (hR : ∀ b H s, Inv Xg pins σ' H s → Q (.bl b) H → R (.ok (.ret (.bool b))) s) :
    ∀ (n : Nat) (H : Hp) (gs : GenState) (s : Shared), Inv Xg pins σ' H s → s.gens[g]? = some gs → gs.Goes (model Xg.prog Xg.w) A.in1.in1 (gR Xg pins σ' Q) (gY Xg pins σ' Q) n (.send .none) (s.setGen g .running) →
      codeAny (model Xg.prog Xg.w) A (.builtin "all.loop" ⟨[.ref a], []⟩) R s := by
  intro n
  induction n with
  | zero =>
    intro H gs s I hgs hgo
    refine codeAny_builtin F.entry_all_loop ?_
    rw [Around.under_plainId F.plain_all_loop _]
    show wpAny _ A.in1 (pyNext (.ref a) >>= _) _ _ s
    refine wpAny_bind (wpAny_pyNext_genexpQ (A := A.in1) (P := fun _ s₁ s₂ => ∃ H, Inv Xg pins σ' H s₂ ∧ Q (.bl true) H) hh I.nolimit hroom (hgen H s I) hgs hgo (fun v s₁ gs' hb hv => ?_) (fun s₁ hp h' hk => ?_))
    · obtain ⟨b, rfl, H1, I1, q0, q1⟩ := hv
      cases b with
      | true => exact (q1 rfl s₁ rfl I1.bare fun _ _ e => e).elim
      | false =>
        refine wpAny_bind (wpAny_holding (wpAny_truthy_bool ?_))
        refine wpAny_bind (wpAny_letGo ?_)
        simp only [Bool.false_eq_true, if_false]
        exact wpAny_bind (wpAny_rule (wpAny_pure (hR false H1 _ (inv_set I1 hb) (q0 rfl))))
    · obtain ⟨H1, I1, q⟩ := hp
      refine wpAny_bind (wpAny_rule (wpAny_pure ?_))
      exact hR true H1 _ (inv_sim I1 rfl (bare_set (x := .finished) I1.bare rfl) hk) q
  | succ n ih =>
    intro H gs s I hgs hgo
    refine codeAny_builtin F.entry_all_loop ?_
    rw [Around.under_plainId F.plain_all_loop _]
    show wpAny _ A.in1 (pyNext (.ref a) >>= _) _ _ s
    have hgl : g + 1 ≤ s.gens.size := by
      rcases Nat.lt_or_ge g s.gens.size with h | h
      · exact h
      · rw [Array.getElem?_eq_none h] at hgs; cases hgs
    refine wpAny_bind (GenW.wpAny_gsz hgl (wpAny_pyNext_genexpQ (A := A.in1) (P := fun _ s₁ s₂ => ∃ H, Inv Xg pins σ' H s₂ ∧ Q (.bl true) H) hh I.nolimit hroom (hgen H s I) hgs hgo (fun v s₁ gs' hb hv => ?_) (fun s₁ hp h' hk => ?_)))
    · intro hsz
      obtain ⟨b, rfl, H1, I1, q0, q1⟩ := hv
      refine wpAny_bind (wpAny_holding (wpAny_truthy_bool ?_))
      refine wpAny_bind (wpAny_letGo ?_)
      cases b with
      | true =>
        simp only [if_true]
        have hs1 : g < s₁.gens.size := by rw [GenW.setGen_size] at hsz; exact hsz
        refine wpAny_pure ⟨plainId_quiet F.plain_all_loop _, ih H1 gs' _ (inv_set I1 hb) (by simp [Shared.setGen, hs1]) ?_⟩
        refine q1 rfl _ rfl (bare_set (s := s₁.setGen g gs') (bare_set I1.bare hb) rfl) fun _ _ e => e
      | false =>
        simp only [Bool.false_eq_true, if_false]
        exact wpAny_bind (wpAny_rule (wpAny_pure (hR false H1 _ (inv_set I1 hb) (q0 rfl))))
    · intro _
      obtain ⟨H1, I1, q⟩ := hp
      refine wpAny_bind (wpAny_rule (wpAny_pure ?_))
      exact hR true H1 _ (inv_sim I1 rfl (bare_set (x := .finished) I1.bare rfl) hk) q

theorem pe_allG {c P : Addr} {elt tg iter : Expr} {p pos gpos : Pos} {scope : Scope} {own : List (Str × Nat)} {wi : TI} {g : TG} {te : TE} {k : Nat} (hr : Room k X.A) (hN : X.N.Nodup) (hgl : Gl X "all") (hm : X.mg "all" = none) (hb : bootBuiltins "all" = some (.builtin "all"))
    (TB : GxR.TabB X.base X.mg c P) (hcode : X.env.code = .ref c) (ok : GOk X.N X.env.scope scope own) (hi : PI X tg iter wi)
    (pg : ∀ s H C code fp, PG (gX X s H scope C code fp) tg g) (pe : ∀ s H C code fp, PE (gX X s H scope C code fp) elt te) (hs : ∀ v, genFold iter X.env v = pure v)
    (he : starEach [.GeneratorExp elt [⟨tg, iter, [], 0⟩] scope gpos] X.env = (false, eval (.GeneratorExp elt [⟨tg, iter, [], 0⟩] scope gpos) X.env) :: starEach [] X.env := by rfl) :
    PE X (.Call (.Name "all" p) [.GeneratorExp elt [⟨tg, iter, [], 0⟩] scope gpos] [] pos) (tAllG P wi g te (own.map (·.2))) := by
  refine ⟨fun pins s σ H Q I h => ?_⟩
  refine wpAny_Call_Name_kw (ld_blt I hgl hm hb ?_)
  refine PyProof.Rows.callWith_builtin1 ?_ he (by rfl)
  rw [he]
  show wpAny _ _ (spliced ((false, eval (.GeneratorExp elt [⟨tg, iter, [], 0⟩] scope gpos) X.env) :: backTo pos (starEach [] X.env))) _ _ s
  have hfree : ∀ y ∈ scope.names, y.2 = .free → ∃ c, X.env.cells.lookup y.1 = some c := fun y hy e => by
    rcases ok.free y hy e with k | k
    · exact I.ok.has _ (.inl k)
    · exact I.ok.has _ (.inr k)
  refine Calls.spliced_cons (wpAny_GeneratorExp_make ok.co (closure_ok hfree) ok.cell ok.dot ok.kind (by have := hr.dp; omega) ?_ hs)
  refine thn (hi.run pins s σ H _ I h) fun xv s1 hx => thn hx fun itv s2 h2 => ?_
  obtain ⟨it, fp, tn, J, H2, e, I2, T, st2, f2, ⟨ps, hP, ht⟩, q⟩ := h2
  subst e
  have hPs : s2.heap.get? P = some { cls := .none, data := .fields ps } := I2.hok P _ hP
  have cd : PySem.W.CodeHd s2.heap c P := TB.code.keeps fun b u e => I2.bk b u e
  have sz : ∀ b ∈ fp, b < s2.heap.objs.size := fun b hb => by
    obtain ⟨o, e, _⟩ := T.obj _ _ st2 b hb
    exact Heap.lt_size e
  have nP : ∀ b ∈ fp, b ≠ P := fun b hb z => by
    have := (f2 b hb).1
    rw [z, hP] at this
    cases this
  have cont : ∀ (code : Value) (h3 : Heap) (tk : Nat) (ps' : Array Value), Heap.ExtBut P s2.heap h3 → s2.heap.objs.size ≤ h3.objs.size → h3.get? P = some { cls := .none, data := .fields ps' } → (∃ more, ps' = ps ++ more) → TriplesOk ps'.toList →
      wpAny (model X.prog X.w) X.A (builtinsFor X.env.globals X.env.builtins) (fun bi s₄ => ∀ h', h'.Ns s₄.heap.objs.size (fun y => if y = ".0" then some (.ref it) else none) → Heap.SameBut s₄.heap.objs.size (s₄.heap.push { cls := .type "frame", data := .dict #[] }) h' →
          wpAny (model X.prog X.w) X.A (spliced (backTo pos (starEach [] X.env))) (fun vs s' => wpAny (model X.prog X.w) X.A (call (.builtin "all") (.ref h'.objs.size :: vs)) (EP X pins σ Q) X.xe s') X.xe { s₄ with
            gens := s₄.gens.push (.fresh (.compStart (.GeneratorExp elt [⟨tg, iter, [], 0⟩] scope gpos) 0 (.ref it) .none (genEnv scope (cloFrom X.env.cells scope.names []) s₄.heap.objs.size code bi X.env))),
            toks := s₄.toks + 1 + 1 + 1,
            heap := h'.push { cls := .type "generator", data := .fields #[.int s₄.gens.size 0, .str "<genexpr>" (s₄.toks + 1), .str (X.env.qual ++ "<genexpr>") (s₄.toks + 1 + 1)] } }) X.xe { s2 with heap := h3, toks := tk } := by
    intro code h3 tk ps' hx hsz hP3 hmore ht3
    obtain ⟨bm, ob, e1, e2, e3, e4, e5, e6, e7, e8⟩ := TB.bm
    refine wpAny_builtinsFor (m := X.mg) (by rw [I2.ok.glob]; exact (I2.mod.glob.keeps I2.bk).extBut hx TB.gP) e1 e2 (hx _ _ e4 (I2.bk _ _ e5)) e6 e7 e8 ?_
    intro h' hn' hs'
    obtain ⟨more, em⟩ := hmore
    -- the table has grown
    have I3 : Inv X pins σ (upd H2 P (.tbl (ps ++ more))) { s2 with heap := h3, toks := tk } := GxR.inv_tab (g' := s2.gens) (d' := s2.drawn) I2 hP (fun b u hb e => hx b u hb e) (by rw [← em]; exact hP3) I2.bare
    have hT : GxR.Tabbed P H2 (upd H2 P (.tbl (ps ++ more))) := ⟨⟨ps ++ more, upd_same, by rw [← em]; exact ht3⟩, fun b hb => upd_ne hb⟩
    obtain ⟨W, ⟨m0, w0⟩, turn⟩ := q _ hT
    generalize hH3 : upd H2 P (.tbl (ps ++ more)) = H3 at I3 hT w0
    have h3n : ∀ b ∈ fp, H3 b = none := fun b hb => by rw [hT.2 b (nP b hb)]; exact (f2 b hb).1
    have st3 : tn 0 h3 := T.keep _ _ _ st2 fun b hb o e => hx b o (nP b hb) e
    generalize hs3 : ({ s2 with heap := h3, toks := tk } : Shared) = s3 at I3 hn' hs' ⊢
    have e3h : s3.heap = h3 := by rw [← hs3]
    have f3 : ∀ b ∈ fp, FpOk X pins H3 b ∧ b < s3.heap.objs.size := fun b hb => ⟨⟨h3n b hb, (f2 b hb).2⟩, by rw [e3h]; exact Nat.lt_of_lt_of_le (sz b hb) hsz⟩
    have st3' : tn 0 s3.heap := by rw [e3h]; exact st3
    generalize hgo : ({ cls := .type "generator", data := .fields #[.int s3.gens.size 0, .str "<genexpr>" (s3.toks + 1), .str (X.env.qual ++ "<genexpr>") (s3.toks + 1 + 1)] } : Obj) = go
    generalize hgs : GenState.fresh (.compStart (.GeneratorExp elt [⟨tg, iter, [], 0⟩] scope gpos) 0 (.ref it) .none (genEnv scope (cloFrom X.env.cells scope.names []) s3.heap.objs.size code builtinsNs X.env)) = gs
    have I4 := gen_start (code := code) (go := go) (gs := gs) (tk := s3.toks + 1 + 1 + 1) I3 hr.hd ok hN f3 hn' hs' (by rw [← hgo]; intro v z; cases z) (by rw [← hgo]; rfl) (by rw [← hgs]; rfl)
    have szh : h'.objs.size = s3.heap.objs.size + 1 := by rw [hs'.1, Heap.size_push]
    have kp0 : ∀ b o, s3.heap.get? b = some o → (h'.push go).get? b = some o := fun b o e => Heap.get?_push_of_some _ (hs'.extBut b o (Nat.ne_of_lt (Heap.lt_size e)) (Heap.get?_push_of_some _ e))
    refine Calls.spliced_nil ?_
    generalize hs4 : ({ s3 with gens := s3.gens.push gs, toks := s3.toks + 1 + 1 + 1, heap := h'.push go } : Shared) = s4 at I4 ⊢
    have st4 : tn 0 s4.heap := T.keep _ _ _ st3' fun b _ o e => by rw [← hs4]; exact kp0 b o e
    have hgen : ∀ {H' : Hp} {s' : Shared} {σ' : L2.St}, Inv (gX X s3 H3 scope s3.heap.objs.size code fp) [(h'.objs.size, go)] σ' H' s' → s'.heap.IsGen h'.objs.size s3.gens.size := fun {H' s' σ'} I' => by
      have := (I'.pin (h'.objs.size, go) (List.mem_append_right _ List.mem_cons_self)).1
      exact ⟨go, _, _, this, by rw [← hgo], by rw [← hgo], by rw [← hgo]⟩
    have back : ∀ {H' : Hp} {s' : Shared} {σ' : L2.St}, Inv (gX X s3 H3 scope s3.heap.objs.size code fp) [(h'.objs.size, go)] σ' H' s' → Inv X pins σ H' s' := fun {H' s' σ'} I' =>
      I3.call' (ch := fp) I'.os I'.base I'.hok I'.bare fun b hb => ⟨(f3 b hb).1.2.2.2.1, (f3 b hb).1.2.1, (f3 b hb).1.2.2.2.2.1, (f3 b hb).1.2.2.2.2.2⟩
    have hpf : ∀ p ∈ [(h'.objs.size, go)], ∀ b ∈ fp, p.1 ≠ b := fun p hp b hb z => by
      rw [List.mem_singleton.mp hp] at z
      have := (f3 b hb).2
      rw [← z, szh] at this
      exact absurd this (Nat.not_lt_of_le (Nat.le_succ _))
    have gen4 : s4.gens[s3.gens.size]? = some gs := by rw [← hs4]; exact Array.getElem?_push_size ..
    have run : ∀ (σ' : L2.St) (s5 : Shared), Inv (gX X s3 H3 scope s3.heap.objs.size code fp) [(h'.objs.size, go)] (wipe σ (own.map (·.2))) H3 s5 → tn 0 s5.heap →
        gs.Goes (model X.prog X.w) X.A.in1.in1 (gR (gX X s3 H3 scope s3.heap.objs.size code fp) [(h'.objs.size, go)] (wipe σ (own.map (·.2))) Q) (gY (gX X s3 H3 scope s3.heap.objs.size code fp) [(h'.objs.size, go)] (wipe σ (own.map (·.2))) Q) (m0 + 1) (.send .none) s5 := by
      intro σ' s5 I5 st5
      rw [← hgs]
      refine ⟨rfl, ?_⟩
      have loop := seg_all (Xg := gX X s3 H3 scope s3.heap.objs.size code fp) (Ag := X.A.in1.in1) (gpos := gpos) (scope := scope) (iter := iter) (fp := fp) (vs := own.map (·.2)) (s_ := σ) (Q := Q) (pins := [(h'.objs.size, go)]) (by rfl) rfl rfl ok.co rfl rfl T (pg s3 H3 s3.heap.objs.size code fp) (pe s3 H3 s3.heap.objs.size code fp) hpf turn (m0 + 1) 0 m0 H3 s5 s5 (Nat.lt_succ_self _) w0 I5 st5 h3n
      show Seg _ X.A.in1.in1 _ _ _ s5 _ ((compStart (.GeneratorExp elt [⟨tg, iter, [], 0⟩] scope gpos) 0 (.ref it) .none (gEnv X scope s3.heap.objs.size code)).onRaise (leaving (gEnv X scope s3.heap.objs.size code))) [] s5
      unfold compStart
      rw [Sem.onRaise_eq_wrap]
      show Seg _ X.A.in1.in1 _ _ _ s5 _ ((ask >>= _).wrap _ _ _ _) [] s5
      refine seg_bind_wrap (wpAny_askSetting ?_)
      split
      · exact seg_again rfl loop
      · first
          | exact seg_bind_wrap (wpAny_rule (seg_bind_wrap (wpAny_standAt (seg_bind_wrap (T.self _ 0 s5 _ _ st5 (seg_again rfl loop))))))
          | (refine seg_bind_wrap (wpAny_rule ?_); show Seg _ X.A.in1.in1 _ _ _ s5 _ ((standAt iter.pos >>= _).wrap _ _ _ _) [] s5; exact seg_bind_wrap (wpAny_standAt (seg_bind_wrap (T.self _ 0 s5 _ _ st5 (seg_again rfl loop)))))
    refine call_function_tree F.kind_all F.plain_all F.entry_all (F.args_all1 _) ?_
    unfold Builtin.«all»
    refine wpAny_bind (m := oneArg "all" _) (wpAny_pure ?_)
    refine wpAny_bind (wpAny_pyIter_gen (hgen I4) ?_)
    refine wpAny_pure ⟨plainId_quiet F.plain_all_loop _, ?_⟩
    refine all_loop (Xg := gX X s3 H3 scope s3.heap.objs.size code fp) (A := X.A) (pins := [(h'.objs.size, go)]) (σ' := wipe σ (own.map (·.2))) (Q := Q) (g := s3.gens.size) hr.hd (by have := hr.dp; omega) (fun H' s' I' => hgen I') (fun b H' s' I' qb => ?_) (m0 + 1) H3 gs s4 I4 gen4 ?_
    · exact ⟨.bl b, H', back I', rfl, qb⟩
    · exact run σ _ (inv_set I4 rfl) st4
  refine ⟨I2.nolimit, ?_⟩
  cases hf : codeAmong gpos ps.toList with
  | none =>
    refine wpAny_genexprCodeX hcode (cd.code hPs ht) (cd.tab hPs) hf fun c' h' tk hx hge hlt hco' _ htab' _ => ?_
    obtain ⟨o1, vs, f1, tf, fl, tg', inF, tx, tt, op, _, _, _, _, _, _, _, _, _, htr, _⟩ := hco'
    exact cont _ h' tk _ hx (Nat.le_trans hge (Nat.le_of_lt hlt)) htab'.2 ⟨_, rfl⟩ htr
  | some cv =>
    refine wpAny_genexprCode_hit hcode (cd.code hPs ht) hf ?_
    exact cont cv s2.heap s2.toks ps (Heap.ExtBut.refl _ _) (Nat.le_refl _) hPs ⟨#[], by simp⟩ ht
end
end GX

set_option Elab.async false
set_option linter.all false
set_option maxRecDepth 100000
set_option maxHeartbeats 2000000
/-! DL8: all of a generator expression, in data. -/
namespace DL
open PySem PySem.Spec L2

section
variable {X : Cx} {T : List Addr} {Δ : DEnv} {e a b c : Expr} {es : List Expr} {d d1 d2 d3 : Dt} {ds : List Dt} {r : Res} {pos p : Pos} {st : Stmt} {rest sts : List Stmt} {P : DE}
variable {K : PySem.W.Frag} {fm : Fm} {L : Lk} {O : List Addr} {σ : St} {H H' : Hp} {Q : VK} {W : WX} {D : Ends}

/-- in the generator's frame: for each of its frames -/
def InGen (X : Cx) (scope : Scope) (f : Cx → Prop) : Prop := ∀ s H C code fp, f (GX.gX X s H scope C code fp)
def canEg (X : Cx) (scope : Scope) (e : Expr) : TE := fun σ H Q => ∀ s0 H0 C code fp, canE (GX.gX X s0 H0 scope C code fp) e σ H Q
def canGg (X : Cx) (scope : Scope) (e : Expr) : TG := fun v σ H Q => ∀ s0 H0 C code fp, canG (GX.gX X s0 H0 scope C code fp) e v σ H Q
theorem gok_by {N : List Str} {sc scope : Scope} {own : List (Str × Nat)} (h : (scope.kind == .function && !scope.isCoroutine && scope.names.all (fun y => !(y.2 == .cell)) && (scope.names.lookup (".0" : Str) == some .local) && scope.names.all (fun y => scope.names.lookup y.1 == some y.2)
    && own.all (fun p => N[p.2]? == some p.1) && scope.names.all (fun y => !(y.2 == .free) || (sc.names.lookup y.1 == some .cell || sc.names.lookup y.1 == some .free)) && scope.names.all (fun y => !(y.2 == .local) || ((own.map (·.1)).contains y.1 || !(N.contains y.1)))) = true) : GX.GOk N sc scope own := by
  simp only [Bool.and_eq_true, List.all_eq_true, Bool.or_eq_true, beq_iff_eq, Bool.not_eq_true', beq_eq_false_iff_ne, List.contains_eq_mem, decide_eq_true_eq, decide_eq_false_iff_not] at h
  obtain ⟨⟨⟨⟨⟨⟨⟨h1, h2⟩, h3⟩, h4⟩, h5⟩, h6⟩, h7⟩, h8⟩ := h
  exact ⟨h1, h2, h3, h4, h5, h6, fun y hy e => (h7 y hy).resolve_left fun z => z e, fun y hy e => (h8 y hy).resolve_left fun z => z e⟩
theorem pd_allG {c P : Addr} {elt tg iter : Expr} {gpos : Pos} {scope : Scope} {own : List (Str × Nat)} {k : Nat} {items : List Dt} {bs : List Bool} (hP : P ∈ T) (hr : Room k X.A) (hN : X.N.Nodup) (hm : X.mg "all" = none)
    (TB : GxR.TabB X.base X.mg c P) (hcode : X.env.code = .ref c) (ok : GX.GOk X.N X.env.scope scope own) (hi : PID X T Δ tg iter items) (hl : bs.length = items.length)
    (ht : ∀ (i : Nat) (d : Dt) (b : Bool), items[i]? = some d → bs[i]? = some b → (∀ j, j < i → bs[j]? = some true) → ∃ js Δ'', (∀ j ∈ js, j ∈ own.map (·.2)) ∧ InGen X scope (fun X' => GD X' T tg d js (wipeD Δ (own.map (·.2))) Δ'') ∧ InGen X scope (fun X' => PD X' T Δ'' elt (.bl b)))
    (hgl : Gl X "all" := by rfl) (hb : bootBuiltins "all" = some (.builtin "all") := by decide +kernel) (hs : ∀ v, genFold iter X.env v = pure v := by intro _; rfl)
    (he : starEach [.GeneratorExp elt [⟨tg, iter, [], 0⟩] scope gpos] X.env = (false, eval (.GeneratorExp elt [⟨tg, iter, [], 0⟩] scope gpos) X.env) :: starEach [] X.env := by rfl) :
    PD X T Δ (.Call (.Name "all" p) [.GeneratorExp elt [⟨tg, iter, [], 0⟩] scope gpos] [] pos) (.bl (bs.all id)) :=
  .of (GX.pe_allG (own := own) (g := canGg X scope tg) (te := canEg X scope elt) hr hN hgl hm hb TB hcode ok canI_ok (fun s H C code fp => ⟨fun pins sh σ H v u Q I r h => h s _ C code fp pins sh u I r⟩) (fun s H C code fp => ⟨fun pins sh σ H Q I h => h s _ C code fp pins sh I⟩) hs he) fun fm L O σ H Q W tk s q =>
    hi.run fm L O σ H _ W tk s fun J H1 π g1 s1 ik => by
      refine ⟨s1.tab P hP, fun H2 hT => ?_⟩
      have g2 : Gr T H1 H2 := fun a o n e => by rw [hT.2 a fun z => n (z ▸ hP)]; exact e
      have t2 : TabOk T H2 := fun P' hP' => by
        by_cases z : P' = P
        · rw [z]; exact hT.1
        · obtain ⟨ps, e, h⟩ := s1.tab P' hP'
          exact ⟨ps, by rw [hT.2 P' z]; exact e, h⟩
      refine ⟨fun i m H' => m = items.length - i ∧ i ≤ items.length ∧ (∀ j, j < i → bs[j]? = some true) ∧ Gr T H H' ∧ Sta X.K T (fm.pin π) L O σ H' Δ,
        ⟨items.length, by simp, Nat.zero_le _, fun j z => absurd z (Nat.not_lt_zero _), g1.trans g2, s1.gr g2 t2⟩, ?_⟩
      rintro i m H' ⟨rfl, hi, hbs, g', s'⟩
      by_cases hlt : i < items.length
      · have hsl : i < bs.length := by omega
        obtain ⟨js, Δ'', hj, hgd, hpd⟩ := ht i items[i] bs[i] (List.getElem?_eq_getElem hlt) (List.getElem?_eq_getElem hsl) hbs
        refine .inr ⟨ik.go _ _ _ _ i s' hlt, fun H2 => bs[i] = true ∧ Gr T H H2 ∧ Sta X.K T (fm.pin π) L O σ H2 Δ,
          fun H2 ⟨hbi, g2, s2⟩ => ⟨items.length - (i + 1), by omega, rfl, hlt, fun j z => (Decidable.em (j = i)).elim (fun e => by rw [e, List.getElem?_eq_getElem hsl, hbi]) (fun e => hbs j (by omega)), g2, s2⟩, fun x H2 hy => ?_⟩
        obtain ⟨g2, t2, rx⟩ := ik.yld _ _ _ _ i x H2 items[i] s' (List.getElem?_eq_getElem hlt) hy
        have s2 := s'.gr g2 t2
        intro s0 H0 C code fp
        refine (hgd s0 H0 C code fp).run (fm.pin π) L O (wipe σ (own.map (·.2))) H2 x _ (s2.wiped _) rx fun σ2 s3 hsame => ?_
        refine ⟨wipe_same (hsame.len.trans (wipe_length σ _)) hj hsame.at_, ?_⟩
        intro s0 H0 C code fp
        refine (hpd s0 H0 C code fp).run (fm.pin π) L O σ2 H2 _ _ takes0 s3 fun y H4 g4 s6 ry => ?_
        have s7 := s2.gr g4 s6.tab
        refine ⟨bs[i], ry.bl_of, ?_⟩
        cases hbi : bs[i] with
        | true =>
          rw [if_pos rfl]
          exact ⟨rfl, (g'.trans g2).trans g4, s7⟩
        | false =>
          rw [if_neg Bool.false_ne_true]
          have : bs.all id = false := by
            cases h : bs.all id with
            | false => rfl
            | true =>
              have := List.all_eq_true.mp h bs[i] (List.getElem_mem hsl)
              rw [hbi] at this
              cases this
          rw [this] at q
          exact q _ H4 ((g'.trans g2).trans g4) s7.unpin (.bl _)
      · have e : i = items.length := by omega
        subst e
        refine .inl ⟨ik.stop _ _ _ _ s', ?_⟩
        have : bs.all id = true := List.all_eq_true.mpr fun b hb => by
          obtain ⟨j, hj, rfl⟩ := List.getElem_of_mem hb
          have := hbs j (by omega)
          rw [List.getElem?_eq_getElem hj] at this
          exact Option.some.inj this
        rw [this] at q
        exact q _ H' g' s'.unpin (.bl _)
end
end DL

set_option Elab.async false
set_option linter.all false
set_option maxRecDepth 100000
set_option maxHeartbeats 2000000
/-! DL9: type(x) == T, chains, signs in texts, displays of dicts, a def that holds a generator expression. -/
namespace DL
open PySem PySem.Spec L2
section
variable {X : Cx} {T : List Addr} {Δ : DEnv} {e a b c : Expr} {es : List Expr} {d d1 d2 d3 : Dt} {ds : List Dt} {r : Res} {pos p : Pos} {st : Stmt} {rest sts : List Stmt} {P : DE}
variable {K : PySem.W.Frag} {fm : Fm} {L : Lk} {O : List Addr} {σ : St} {H H' : Hp} {Q : VK} {W : WX} {D : Ends}

/-! ### type(x) == T -/
def TyD (K : PySem.W.Frag) (H : Hp) (x : V) (T : String) : Prop := TyB K H x T ∨ ∃ a kvs, x = .ref a ∧ T = "dict" ∧ Rd H a (.dK kvs)
theorem call_type2 : CallR X (.type "type") (fun xs H Q => ∃ x T, xs = [x] ∧ TyD X.K H x T ∧ Q (.ty T) H) := by
  intro pins s σ H xs us Q I r h
  obtain ⟨x, T, rfl, t, q⟩ := h
  obtain ⟨u, rfl, rx⟩ := vals1 r
  rcases t with t | ⟨a, kvs, rfl, rfl, t⟩
  · exact call_type_of (t.is I rx) t.nb ⟨.ty T, H, I, rfl, q⟩
  · cases (show u = Value.ref a from rx)
    obtain ⟨_, _, vs, _, p⟩ := (show ObjOk X.prog X.w H s.heap a (.dK kvs) from t.ok I.hok)
    exact call_type_of p.typeIs (by decide +kernel) ⟨.ty "dict", H, I, rfl, q⟩
theorem Rp.tyd {F H : Hp} {v : V} {n : String} (le : ∀ a u, F a = some u → H a = some u) (h : Rp K F v d) (hn : tyD d = some n) (hd : noDt d = true) : TyD K H v n := by
  cases h with
  | non => cases hn; exact .inl .non
  | bl b => cases hn; exact .inl (.bl b)
  | int i => cases hn; exact .inl (.int i)
  | str s => cases hn; exact .inl (.str _)
  | tup g _ _ => cases hn; exact .inl (.tup (.of (le _ _ g)))
  | lst g _ _ => cases hn; exact .inl (.lst (.of (le _ _ g)))
  | dk g _ _ _ =>
    cases hn
    rcases g with g | ⟨o, g⟩
    · exact .inr ⟨_, _, rfl, rfl, .inl (le _ _ g)⟩
    · exact .inr ⟨_, _, rfl, rfl, .inr ⟨o, le _ _ g⟩⟩
  | dt g _ _ _ => cases hd
  | _ => cases hn
theorem pd_type {n : String} (hm : X.mg "type" = none) (ha : PD X T Δ e d) (hn : tyD d = some n) (hd : noDt d = true) (hg : Gl X "type" := by rfl)
    (he : starEach [e] X.env = (false, eval e X.env) :: starEach [] X.env := by rfl) : PD X T Δ (.Call (.Name "type" p) [e] [] pos) (.ty n) :=
  pr_callT call_type2 (fun fm L O σ H Δ Q W vs tk s ra q => by
    obtain ⟨v, rfl, rv⟩ := ra.one
    exact ⟨v, n, rfl, rv.tyd (fun a u e => (mask_some e).1) hn hd, q _ H Gr.refl s (.ty _)⟩) hm (by decide +kernel) (pad_cons ha pad_nil he) hg (he := he)
/-- the built-in types that are asked for -/
def tyIs (n : String) : Bool := n == "int" || n == "str" || n == "tuple" || n == "list" || n == "bool" || n == "NoneType" || n == "dict"
theorem tyIs_ok {n : String} (h : tyIs n = true) : ∀ s : Shared, s.TypeIs (.type n) "type" := by
  unfold tyIs at h
  simp only [Bool.or_eq_true, beq_iff_eq] at h
  rcases h with (((((h | h) | h) | h) | h) | h) | h <;> subst h <;> intro s <;> rfl
theorem op_eqTy : OpR X (compareOp .Eq) (fun x y H Q => ∃ m n, x = .ty m ∧ y = .ty n ∧ tyIs m = true ∧ tyIs n = true ∧ Q (.bl (decide (m = n))) H) := by
  intro pins s σ H x y v u Q I rx ry h
  obtain ⟨m, n, rfl, rfl, h1, h2, q⟩ := h
  cases (show v = Value.type m from rx)
  cases (show u = Value.type n from ry)
  by_cases e : m = n
  · subst e
    exact PySem.TypeEq.eq_type_same (tyIs_ok h1) ⟨.bl true, H, I, rfl, by simpa using q⟩
  · refine PySem.TypeEq.eq_type_other (tyIs_ok h1) (tyIs_ok h2) ?_ ⟨.bl false, H, I, rfl, by simpa [e] using q⟩
    exact beq_eq_false_iff_ne.mpr fun z => e (Value.type.inj z)
/-- by `is` -/
theorem op_isTy9 : OpR X (compareOp .Is) (fun x y H Q => ∃ m n, x = .ty m ∧ y = .ty n ∧ tyIs m = true ∧ tyIs n = true ∧ Q (.bl (decide (m = n))) H) := by
  intro pins s σ H x y v u Q I rx ry h
  obtain ⟨m, n, rfl, rfl, h1, h2, q⟩ := h
  cases (show v = Value.type m from rx)
  cases (show u = Value.type n from ry)
  by_cases e : m = n
  · subst e
    exact wpAny_is_self rfl ⟨.bl true, H, I, rfl, by simpa using q⟩
  · exact wpAny_is_other rfl (fun z => e (Value.type.inj z)) ⟨.bl false, H, I, rfl, by simpa [e] using q⟩
theorem opd_eqTy {m n : String} (h1 : tyIs m = true) (h2 : tyIs n = true) : OpD X T (fun x y H Q => ∃ m n, x = .ty m ∧ y = .ty n ∧ tyIs m = true ∧ tyIs n = true ∧ Q (.bl (decide (m = n))) H) (.ty m) (.ty n) (.val (.bl (decide (m = n)))) := fun fm L O σ H Δ Q W x y tk s r1 r2 q =>
  ⟨m, n, r1.ty_of, r2.ty_of, h1, h2, q _ H Gr.refl s (.bl _)⟩
/-! ### chains -/
theorem pd_chain {op op' : CmpOp} {r r' : R2} {k l : Bool} (ho : OpR X (compareOp op) r) (ho' : OpR X (compareOp op') r') (ha : PD X T Δ a d1) (hb : PD X T Δ b d2) (hc : k = true → PD X T Δ c d3) (hr : OpD X T r d1 d2 (.val (.bl k))) (hr' : k = true → OpD X T r' d2 d3 (.val (.bl l)))
    (hm : lastMarks [op, op'] [b, c] = false := by with_unfolding_all rfl) : PD X T Δ (.Compare a [op, op'] [b, c] pos) (.bl (k && l)) :=
  .of (pe_chain ho ho' canE_ok canE_ok canE_ok hm) fun fm L O σ H Q W tk s q =>
    ha.run fm L O σ H _ W tk s fun x H1 g1 s1 r1 => hb.run fm L O σ H1 _ W tk s1 fun y H2 g2 s2 r2 =>
      hr fm L O σ H2 Δ _ W x y tk s2 (r1.mono (g2.mask s2.tO)) r2 fun v H3 g3 s3 r3 => ⟨k, r3.bl_of, by
        cases k with
        | false =>
          rw [if_neg Bool.false_ne_true]
          exact q _ H3 ((g1.trans g2).trans g3) s3 (.bl _)
        | true =>
          rw [if_pos rfl]
          refine (hc rfl).run fm L O σ H3 _ W tk s3 fun z H4 g4 s4 r4 => ?_
          refine hr' rfl fm L O σ H4 Δ Q W y z tk s4 (r2.mono ((g3.trans g4).mask s4.tO)) r4 ?_
          exact RK.back s s4 (((g1.trans g2).trans g3).trans g4) q⟩

/-! ### texts -/
theorem opd_leS {i j : List Nat} : OpD X T (fun x y H Q => ∃ i j, x = .str i ∧ y = .str j ∧ Q (.bl (!decide (j.cps.toList < i.cps.toList))) H) (.str i) (.str j) (.val (.bl (!decide (j < i)))) := fun fm L O σ H Δ Q W x y tk s r1 r2 q =>
  ⟨_, _, r1.str_of, r2.str_of, by
    have : (⟨j.toArray⟩ : Str).cps.toList = j := by simp
    rw [this]
    have : (⟨i.toArray⟩ : Str).cps.toList = i := by simp
    rw [this]
    exact q _ H Gr.refl s (.bl _)⟩
theorem opd_inS {k : Nat} {j : List Nat} : OpD X T (fun x y H Q => ∃ (c : Nat) (z : Str), x = .str ⟨#[c]⟩ ∧ y = .str z ∧ Q (.bl (decide (c ∈ z.cps.toList))) H) (.str [k]) (.str j) (.val (.bl (decide (k ∈ j)))) := fun fm L O σ H Δ Q W x y tk s r1 r2 q =>
  ⟨k, _, r1.str_of, r2.str_of, by
    have : (⟨j.toArray⟩ : Str).cps.toList = j := by simp
    rw [this]
    exact q _ H Gr.refl s (.bl _)⟩
theorem opd_notinS {k : Nat} {j : List Nat} : OpD X T (fun x y H Q => ∃ (c : Nat) (z : Str), x = .str ⟨#[c]⟩ ∧ y = .str z ∧ Q (.bl (!decide (c ∈ z.cps.toList))) H) (.str [k]) (.str j) (.val (.bl (!decide (k ∈ j)))) := fun fm L O σ H Δ Q W x y tk s r1 r2 q =>
  ⟨k, _, r1.str_of, r2.str_of, by
    have : (⟨j.toArray⟩ : Str).cps.toList = j := by simp
    rw [this]
    exact q _ H Gr.refl s (.bl _)⟩
theorem opd_isB {i j : Bool} : OpD X T (fun x y H Q => ∃ a b, x = .bl a ∧ y = .bl b ∧ Q (.bl (decide (a = b))) H) (.bl i) (.bl j) (.val (.bl (decide (i = j)))) := fun fm L O σ H Δ Q W x y tk s r1 r2 q =>
  ⟨_, _, r1.bl_of, r2.bl_of, q _ H Gr.refl s (.bl _)⟩
theorem opd_isnotB {i j : Bool} : OpD X T (fun x y H Q => ∃ a b, x = .bl a ∧ y = .bl b ∧ Q (.bl (!decide (a = b))) H) (.bl i) (.bl j) (.val (.bl (!decide (i = j)))) := fun fm L O σ H Δ Q W x y tk s r1 r2 q =>
  ⟨_, _, r1.bl_of, r2.bl_of, q _ H Gr.refl s (.bl _)⟩
theorem pd_powI {i j : Int} (ha : PD X T Δ a (.int i)) (hb : PD X T Δ b (.int j)) (hc : CPow i j) : PD X T Δ (.BinOp a .Pow b pos) (.int (i ^ j.toNat)) := pd_op op_pow ha hb (opd_I hc fun _ => .int _)


/-! ### displays of dicts -/
/-- a hidden thing is written -/
theorem Sta.hid_upd {pa : Addr} {o : HO} (s1 : Sta K T fm L O σ H Δ) (hp : H pa = none) (s7 : Sta K T fm L (pa :: O) σ H' Δ) (ho : ∀ xs, o ≠ .tup xs := by intro xs z; cases z) : Sta K T fm L (pa :: O) σ (upd H' pa o) Δ := by
  obtain ⟨aO, a0, aT, aL⟩ := s1.new_apart hp
  have hm : mask (upd H' pa o) (pa :: O) = mask H' (pa :: O) := mask_upd List.mem_cons_self
  refine ⟨s7.tO, fun P hP => ?_, fun l hl => ?_, s7.o0, s7.b0, s7.d0, fun q hq => by rw [hm]; exact s7.pin q hq, fun a o e h1 h2 h3 => ?_, fun q hq => ?_, s7.len, fun i e he => ?_, s7.own, s7.sep⟩
  · obtain ⟨ps, e1, q1⟩ := s7.tab P hP
    exact ⟨ps, by rw [upd_ne fun (z : P = pa) => aT (z ▸ hP)]; exact e1, q1⟩
  · by_cases hl2 : l = pa
    · rw [hl2]; exact .of upd_same ho
    · exact (s7.dom l hl).keep fun v e => by rw [upd_ne hl2]; exact e
  · have ne : a ≠ pa := fun z => by
      have := s1.fresh0 hp
      rw [z] at e
      rw [this] at e; cases e
    rw [upd_ne ne]
    exact s7.keep a _ e h1 h2 h3
  · have ne : q.1 ≠ pa := fun z => by
      have := s1.lock q hq
      rw [z, hp] at this; cases this
    rw [upd_ne ne]
    exact s7.lock q hq
  · obtain ⟨v, h1, h2⟩ := s7.slot i e he
    refine ⟨v, h1, ?_⟩
    cases e with
    | imm d =>
      show Rp K (mask (upd H' pa o) (pa :: O)) v d
      rw [hm]; exact h2
    | own l br o =>
      obtain ⟨q1, q2, q3⟩ := h2
      refine ⟨q1, q2, ?_⟩
      rw [hm]
      exact q3.mono (Le.refl _) fun u hu => by rw [upd_ne (aL i l br o he)]; exact hu
theorem pr_dict1 {k v : Expr} {i : Int} (hk : PD X T Δ k (.int i)) (hv : PD X T Δ v d) : PR X T Δ (.Dict [some k] [v] pos) (.own (.dk [(.inl i, d)])) :=
  .of (pe_disp (pps_cons canE_ok canE_ok pps_nil) rfl rfl (fun z => nomatch z) (by show 1 ≤ 15; decide)) fun fm L O σ H Q W tk s q p hp => by
    have s0 := s.hide (u := .dK []) hp
    refine hk.run fm L (p :: O) σ _ _ W tk s0 fun x H1 g1 s1 r1 => hv.run fm L (p :: O) σ H1 _ W tk s1 fun y H2 g2 s2 r2 => ?_
    obtain ⟨aO, a0, aT, aL⟩ := s.new_apart hp
    have e2 : H2 p = some (.dK []) := g2 p _ aT (g1 p _ aT upd_same)
    refine ⟨e2, [(.inl i, y)], by rw [r1.int_of]; rfl, by show 1 ≤ 15; decide, ?_⟩
    have hm : mask (upd H2 p (.dK [(.inl i, y)])) (p :: O) = mask H2 (p :: O) := mask_upd List.mem_cons_self
    refine q p _ hp (fun a o n ha => ?_) (s.hid_upd hp s2) ⟨[(.inl i, y)], upd_same, ⟨rfl, ?_⟩⟩
    · have ne : a ≠ p := fun z => by rw [z, hp] at ha; cases ha
      rw [upd_ne ne]
      exact g2 a o n (g1 a o n (by rw [upd_ne ne]; exact ha))
    · show RpA X.K (mask (upd H2 p (.dK [(.inl i, y)])) (p :: O)) [y] [d]
      rw [hm]
      exact .cons r2 .nil
end
section
variable {P : Program} {w : World} {K : PySem.W.Frag} {mg : Str → Option Value} {base : Heap} {T : List Addr}
/-- a def whose code object is known -/
theorem fn_okC {x qual : Str} {st : Stmt} {f : Addr} {fd : FuncData} {N ps : List Str} {k : Nat} {Fn : List Dt → Res → Prop} (F : Fun K x qual st f fd) (S : FnScope N ps (defScope st))
    (hbody : ∀ (cdv : Value) (A : Around) (outer : List PySem.Env) (s : Shared) (H : Hp) (E : XK) (ds : List Dt) (r : Res), fd.code = cdv → Room k (A.deeper (PyProof.Rows.envOfC qual (defScope st) s.heap.objs.size f cdv)) → ds.length = ps.length → Fn ds r →
      PSsD (cxOf (L2.CX P w) P w K mg base N qual (defScope st) f cdv A outer s H E) T (startD N ds) (defBody st) r.de) : FnD P w K mg base T (k + 1) f fd ps Fn := by
  obtain ⟨oc, od, kV, doc, pm, an, cdv, ct, osl, rfl, lk, hcd⟩ := F.ex
  refine fn_of lk hcd S (fun vs H Q E h => h.1) fun A outer s H vs Q E hr h => ?_
  obtain ⟨hl, O, ds, r, hp, ra, hF, ck⟩ := h
  refine ⟨_, canSs_ok, ?_⟩
  refine (hbody cdv A outer s H E ds r rfl hr (by rw [← ra.len]; exact hl) hF).run ⟨O, [], H, []⟩ [] O _ H _ (fun cls d _ H' => E cls d H') (takes_of rfl rfl rfl rfl) (sta_start hp ra) ?_
  have msk : ∀ {O' : List Addr} {H' : Hp}, (∀ l ∈ O, l ∈ O') → Le (mask H' O') (mask H' O) := fun h => mask_sub h
  cases r with
  | val d =>
    refine ⟨fun O' σ' H' Δ' h s' => ?_, fun O' σ' H' Δ' v d' h s' rv => ?_, fun _ _ _ _ _ _ h => h.elim, fun _ _ _ _ h => h.elim, fun _ _ _ _ h => h.elim, fun _ _ _ _ _ h => h.elim⟩
    · have h : d = .non := h
      subst h
      exact ck .non H' (s'.gr0 rfl) s'.tab .non
    · have h : d' = d := h
      subst h
      exact ck v H' (s'.gr0 rfl) s'.tab (rv.mono (msk s'.o0))
  | own o =>
    refine ⟨fun _ _ _ _ h => h.elim, fun _ _ _ _ _ _ h => h.elim, fun O' σ' H' Δ' l o' h s' hl h0 ow => ?_, fun _ _ _ _ h => h.elim, fun _ _ _ _ h => h.elim, fun _ _ _ _ _ h => h.elim⟩
    have h : o' = o := h
    subst h
    refine ck l H' h0 (s'.gr0 rfl) s'.tab (ow.mono (mask_sub fun b hb => ?_) fun u hu => hu)
    rcases List.mem_cons.mp hb with z | z
    · rw [z]; exact hl
    · exact s'.o0 b z
  | exc C =>
    refine ⟨fun _ _ _ _ h => h.elim, fun _ _ _ _ _ _ h => h.elim, fun _ _ _ _ _ _ h => h.elim, fun _ _ _ _ h => h.elim, fun _ _ _ _ h => h.elim, fun O' σ' H' Δ' C' h s' => ?_⟩
    have h : C' = C := h
    subst h
    exact ck H' (s'.gr0 rfl) s'.tab
end
end DL

set_option Elab.async false
set_option linter.all false
set_option maxRecDepth 100000
set_option maxHeartbeats 2000000
/-! LM2: what the tests of spots and rules answer, as functions on data. -/
namespace LM
open PySem PySem.Spec L2 DL
def numD : Dt → Bool | .int _ => true | _ => false
def strB : Dt → Bool | .str _ => true | _ => false
def tupB : Dt → Bool | .tup _ => true | _ => false
def sgOk (c : Nat) : Bool := decide (97 ≤ c) && decide (c ≤ 122)
def signD : Dt → Bool | .str [c] => sgOk c | _ => false
def pileD : Dt → Bool | .str l => l.all sgOk | _ => false
def stateD (d : Dt) (many : Int) : Bool := match d with | .int i => decide (0 ≤ i) && decide (i < many) | _ => false
def tupleD (d : Dt) (n : Nat) : Bool := match d with | .tup l => decide (l.length = n) | _ => false
def ruleD (d : Dt) (many : Int) : Bool := match d with
  | .tup [a, b, c, .str p] => (stateD a many && (signD b && stateD c many)) && (p.all sgOk && decide (p.length ≤ 2))
  | _ => false
def spotD (d : Dt) (many : Int) : Bool := match d with
  | .tup [a, p] => stateD a many && pileD p
  | _ => false
/-- data whose type is told -/
def lenOk : Dt → Bool | .str l => decide (l.length ≤ 100000) && l.all (fun c => decide (c < 1000)) | _ => true
def pl1 (d : Dt) : Bool := (tyD d).isSome && (noDt d && lenOk d)
def pl2 (d : Dt) : Bool := pl1 d && (match d with | .tup l => l.all pl1 | _ => true)
theorem pl1_ty {d : Dt} (h : pl1 d = true) : ∃ n, tyD d = some n ∧ noDt d = true ∧ tyIs n = true := by
  obtain ⟨h1, h2⟩ := (Bool.and_eq_true _ _).mp h
  obtain ⟨n, hn⟩ := Option.isSome_iff_exists.mp h1
  refine ⟨n, hn, ((Bool.and_eq_true _ _).mp h2).1, ?_⟩
  cases d <;> first | (cases hn; decide) | cases hn
theorem pl1_ix {d : Dt} (h : pl1 d = true) : IxOk d := by
  have h2 := ((Bool.and_eq_true _ _).mp ((Bool.and_eq_true _ _).mp h).2).2
  cases d with
  | str l => exact Nat.le_trans (of_decide_eq_true ((Bool.and_eq_true _ _).mp h2).1) (by decide)
  | _ => trivial
theorem pl1_okS {l : List Nat} (h : pl1 (.str l) = true) : OkS l := fun c hc => by
  have h2 := ((Bool.and_eq_true _ _).mp ((Bool.and_eq_true _ _).mp h).2).2
  exact of_decide_eq_true (List.all_eq_true.mp ((Bool.and_eq_true _ _).mp h2).2 c hc)
theorem pl1_str {l : List Nat} (h : l.length ≤ 100000) (k : OkS l) : pl1 (.str l) = true := by
  show (true && (true && (decide (l.length ≤ 100000) && l.all (fun c => decide (c < 1000))))) = true
  rw [Bool.true_and, Bool.true_and, Bool.and_eq_true]
  exact ⟨decide_eq_true h, List.all_eq_true.mpr fun c hc => decide_eq_true (k c hc)⟩
theorem ty_int {d : Dt} {n : String} (h : tyD d = some n) : decide (n = "int") = numD d := by
  cases d <;> first | (cases h; rfl) | cases h
theorem ty_str {d : Dt} {n : String} (h : tyD d = some n) : decide (n = "str") = strB d := by
  cases d <;> first | (cases h; rfl) | cases h
theorem ty_tup {d : Dt} {n : String} (h : tyD d = some n) : decide (n = "tuple") = tupB d := by
  cases d <;> first | (cases h; rfl) | cases h
theorem num_of {d : Dt} (h : numD d = true) : ∃ i, d = .int i := by
  cases d with
  | int i => exact ⟨i, rfl⟩
  | _ => cases h
theorem str_of {d : Dt} (h : strB d = true) : ∃ l, d = .str l := by
  cases d with
  | str l => exact ⟨l, rfl⟩
  | _ => cases h
theorem tup_of {d : Dt} (h : tupB d = true) : ∃ l, d = .tup l := by
  cases d with
  | tup l => exact ⟨l, rfl⟩
  | _ => cases h
theorem state_num {d : Dt} {m : Int} (h : numD d = false) : stateD d m = false := by
  cases d with
  | int i => cases h
  | _ => rfl
theorem sign_str {d : Dt} (h : strB d = false) : signD d = false := by
  cases d with
  | str i => cases h
  | _ => rfl
theorem pile_str {d : Dt} (h : strB d = false) : pileD d = false := by
  cases d with
  | str i => cases h
  | _ => rfl
theorem tuple_tup {d : Dt} {n : Nat} (h : tupB d = false) : tupleD d n = false := by
  cases d with
  | tup i => cases h
  | _ => rfl
theorem lt1 (a b : Nat) : decide ([a] < [b]) = decide (a < b) := by
  apply decide_eq_decide.mpr
  constructor
  · intro h
    cases h with
    | rel h => exact h
    | cons h => cases h
  · exact fun h => .rel h
theorem tuple_of {d : Dt} {n : Nat} (h : tupleD d n = true) : ∃ l, d = .tup l ∧ l.length = n := by
  cases d with
  | tup l => exact ⟨l, rfl, of_decide_eq_true h⟩
  | _ => cases h
theorem rule_tuple {d : Dt} {m : Int} (h : tupleD d 4 = false) : ruleD d m = false := by
  unfold ruleD
  split
  · cases h
  · rfl
theorem spot_tuple {d : Dt} {m : Int} (h : tupleD d 2 = false) : spotD d m = false := by
  unfold spotD
  split
  · cases h
  · rfl
theorem rule_four {a b c e : Dt} {m : Int} : ruleD (.tup [a, b, c, e]) m = ((stateD a m && (signD b && stateD c m)) && (pileD e && (match e with | .str p => decide (p.length ≤ 2) | _ => false))) := by
  cases e with
  | str p => rfl
  | _ => simp [ruleD, pileD]
theorem two_of {l : List Dt} (h : l.length = 2) : ∃ a b, l = [a, b] := match l, h with | [a, b], _ => ⟨a, b, rfl⟩
theorem four_of {l : List Dt} (h : l.length = 4) : ∃ a b c d, l = [a, b, c, d] := match l, h with | [a, b, c, d], _ => ⟨a, b, c, d, rfl⟩
theorem ptd_k {X : Cx} {T : List Addr} {Δ : DEnv} {e : Expr} {k k' : Bool} (h : PTD X T Δ e k) (q : k = k') : PTD X T Δ e k' := q ▸ h
theorem room_gen {k : Nat} {A : Around} {env : PySem.Env} (r : Room (k + 1) A) : Room k (A.in1.in1.deeper env) :=
  ⟨r.hd, by have := r.dp; show A.depth + 1 + 3 * k + 5 < _; omega, by have := r.un; show A.units + 1 + 1 + 3 + 16 * k + 200 < _; omega⟩
theorem pl2_one {d : Dt} (h : pl2 d = true) : pl1 d = true := ((Bool.and_eq_true _ _).mp h).1
theorem pl2_tup {l : List Dt} (h : pl2 (.tup l) = true) : ∀ d ∈ l, pl1 d = true := List.all_eq_true.mp ((Bool.and_eq_true _ _).mp h).2
end LM
namespace LM
open PySem PySem.Spec L2 DL
def blD : Dt → Bool | .bl _ => true | _ => false
theorem isi_str {d : Dt} (h : pl1 d = true) : ∃ n, tyD d = some n ∧ noDt d = true ∧ kitB n "str" = some (strB d) := by
  obtain ⟨n, h1, h2, _⟩ := pl1_ty h
  refine ⟨n, h1, h2, ?_⟩
  cases d <;> first | (exfalso; cases h2; done) | (exfalso; cases h1; done) | (cases h1; exact (by decide +kernel : kitB "NoneType" "str" = some false)) | (cases h1; exact (by decide +kernel : kitB "bool" "str" = some false)) | (cases h1; exact (by decide +kernel : kitB "int" "str" = some false)) | (cases h1; exact (by decide +kernel : kitB "str" "str" = some true)) | (cases h1; exact (by decide +kernel : kitB "tuple" "str" = some false)) | (cases h1; exact (by decide +kernel : kitB "list" "str" = some false)) | (cases h1; exact (by decide +kernel : kitB "dict" "str" = some false))
theorem isi_int {d : Dt} (h : pl1 d = true) : ∃ n, tyD d = some n ∧ noDt d = true ∧ kitB n "int" = some (numD d || blD d) := by
  obtain ⟨n, h1, h2, _⟩ := pl1_ty h
  refine ⟨n, h1, h2, ?_⟩
  cases d <;> first | (exfalso; cases h2; done) | (exfalso; cases h1; done) | (cases h1; exact (by decide +kernel : kitB "NoneType" "int" = some false)) | (cases h1; exact (by decide +kernel : kitB "bool" "int" = some true)) | (cases h1; exact (by decide +kernel : kitB "int" "int" = some true)) | (cases h1; exact (by decide +kernel : kitB "str" "int" = some false)) | (cases h1; exact (by decide +kernel : kitB "tuple" "int" = some false)) | (cases h1; exact (by decide +kernel : kitB "list" "int" = some false)) | (cases h1; exact (by decide +kernel : kitB "dict" "int" = some false))
theorem isi_bool {d : Dt} (h : pl1 d = true) : ∃ n, tyD d = some n ∧ noDt d = true ∧ kitB n "bool" = some (blD d) := by
  obtain ⟨n, h1, h2, _⟩ := pl1_ty h
  refine ⟨n, h1, h2, ?_⟩
  cases d <;> first | (exfalso; cases h2; done) | (exfalso; cases h1; done) | (cases h1; exact (by decide +kernel : kitB "NoneType" "bool" = some false)) | (cases h1; exact (by decide +kernel : kitB "bool" "bool" = some true)) | (cases h1; exact (by decide +kernel : kitB "int" "bool" = some false)) | (cases h1; exact (by decide +kernel : kitB "str" "bool" = some false)) | (cases h1; exact (by decide +kernel : kitB "tuple" "bool" = some false)) | (cases h1; exact (by decide +kernel : kitB "list" "bool" = some false)) | (cases h1; exact (by decide +kernel : kitB "dict" "bool" = some false))
theorem isi_tuple {d : Dt} (h : pl1 d = true) : ∃ n, tyD d = some n ∧ noDt d = true ∧ kitB n "tuple" = some (tupB d) := by
  obtain ⟨n, h1, h2, _⟩ := pl1_ty h
  refine ⟨n, h1, h2, ?_⟩
  cases d <;> first | (exfalso; cases h2; done) | (exfalso; cases h1; done) | (cases h1; exact (by decide +kernel : kitB "NoneType" "tuple" = some false)) | (cases h1; exact (by decide +kernel : kitB "bool" "tuple" = some false)) | (cases h1; exact (by decide +kernel : kitB "int" "tuple" = some false)) | (cases h1; exact (by decide +kernel : kitB "str" "tuple" = some false)) | (cases h1; exact (by decide +kernel : kitB "tuple" "tuple" = some true)) | (cases h1; exact (by decide +kernel : kitB "list" "tuple" = some false)) | (cases h1; exact (by decide +kernel : kitB "dict" "tuple" = some false))
theorem mem_cutD {α : Type} {l : List α} {a b : Option Int} {x : α} (h : x ∈ cutD l a b) : x ∈ l := List.mem_of_mem_drop (List.mem_of_mem_take h)
theorem len_cutD {α : Type} (l : List α) (a b : Option Int) : (cutD l a b).length ≤ l.length := by
  unfold cutD
  rw [List.length_take, List.length_drop]
  omega
theorem getD_all {α : Type} {P : α → Prop} {l : List α} {z : α} (hz : P z) (h : ∀ x ∈ l, P x) (i : Nat) : P (l.getD i z) := by
  rw [List.getD_eq_getElem?_getD]
  cases e : l[i]? with
  | none => exact hz
  | some x => exact h x (List.mem_of_getElem? e)
theorem mod_bounds (c : Int) {m : Int} (h : 0 < m) : 0 ≤ c % m ∧ c % m < m := ⟨Int.emod_nonneg _ (by omega), Int.emod_lt_of_pos _ h⟩
/-! ### the odd things of the first law -/
def textD (c : Int) (n : Nat) : List Nat := (List.range n).map fun (k : Nat) => sgn (c / (1 + (k : Int)) + 7 * (k : Int))
theorem textD_len (c : Int) (n : Nat) : (textD c n).length = n := by unfold textD; simp
theorem textD_ok (c : Int) (n : Nat) : (textD c n).all sgOk = true := List.all_eq_true.mpr fun x hx => by
  obtain ⟨k, _, rfl⟩ := List.mem_map.mp hx
  have := sgn_lt (c / (1 + (k : Int)) + 7 * (k : Int))
  unfold sgOk
  simp
  omega
def oddSL (c m : Int) : List Dt := [.int (-1), .int m, .int (m + c / 8 % 10 ^ 30), .int (-1 - c / 8 % 10 ^ 30), .bl true, .bl false, .non, .str [48], .lst [.int 0], .tup [.int 1]]
def oddS (c m : Int) : Dt := (oddSL c m).getD (c % 10).toNat .non
def oddChars : List Nat := [65, 66, 90, 123, 96, 48, 32, 57, 47, 95, 10, 45, 64]
def oddTT (c : Int) (t : List Nat) : List Nat := cutD t none (some (c / 8 % ((t.length : Int) + 1))) ++ [oddChars.getD (c / 64 % 13).toNat 0] ++ cutD t (some (c / 8 % ((t.length : Int) + 1))) none
def oddTL (c : Int) (t : List Nat) : List Dt := [.str (oddTT c t), .non, .int 5, .lst [.str t], .tup [.str t], .str (oddTT c t), .dk [] [], .str (oddTT c t)]
def oddT (c : Int) (t : List Nat) : Dt := (oddTL c t).getD (c % 8).toNat .non
def spoiltL (l : List Dt) : List Dt := [.lst l, .tup (cutD l none (some (-1))), .tup (l ++ [.int 0]), .non, .int 7, .dk [.inl 0] [.tup l], .str [97, 98], .tup []]
def partL (c : Int) (t : List Nat) : List Dt := [oddT (c / 49) t, .str (t ++ textD (c / 49) (1 + c / 49 % 3).toNat), .str []]
def part (d : Dt) (c m : Int) : Dt := match d with
  | .str t => (partL c t).getD (c % 3).toNat .non
  | _ => oddS (c / 49) m
def spoilt (l : List Dt) (c m : Int) : Dt :=
  if c % 7 = 0 then .tup l else if c % 7 = 1 then (spoiltL l).getD (c / 49 % 8).toNat .non
  else .tup (cutD l none (some (c / 7 % (l.length : Int))) ++ [part (l.getD (c / 7 % (l.length : Int)).toNat .non) c m] ++ cutD l (some (c / 7 % (l.length : Int) + 1)) none)
theorem oddTT_len (c : Int) (t : List Nat) : (oddTT c t).length ≤ 2 * t.length + 1 := by
  unfold oddTT
  rw [List.length_append, List.length_append, List.length_singleton]
  have h1 := len_cutD t none (some (c / 8 % ((t.length : Int) + 1)))
  have h2 := len_cutD t (some (c / 8 % ((t.length : Int) + 1))) none
  omega
theorem pl1_oddS (c m : Int) : pl1 (oddS c m) = true := by
  refine getD_all (P := fun d => pl1 d = true) rfl (fun x hx => ?_) _
  simp only [oddSL, List.mem_cons, List.not_mem_nil, or_false] at hx
  rcases hx with h | h | h | h | h | h | h | h | h | h <;> subst h <;> rfl
theorem okS_cut {t : List Nat} {a b : Option Int} (h : OkS t) : OkS (cutD t a b) := fun c hc => h c (mem_cutD hc)
theorem okS_oddTT {c : Int} {t : List Nat} (h : OkS t) : OkS (oddTT c t) := by
  unfold oddTT
  refine ok_app (ok_app (okS_cut h) fun x hx => ?_) (okS_cut h)
  rw [List.mem_singleton.mp hx]
  exact getD_all (P := fun x => x < 1000) (by decide) (by decide) _
theorem okS_textD (c : Int) (n : Nat) : OkS (textD c n) := fun x hx => by
  obtain ⟨k, _, rfl⟩ := List.mem_map.mp hx
  have := sgn_lt (c / (1 + (k : Int)) + 7 * (k : Int))
  omega
theorem pl1_oddT {c : Int} {t : List Nat} (h : t.length ≤ 1000) (k : OkS t) : pl1 (oddT c t) = true := by
  have h2 : pl1 (.str (oddTT c t)) = true := pl1_str (by have := oddTT_len c t; omega) (okS_oddTT k)
  refine getD_all (P := fun d => pl1 d = true) rfl (fun x hx => ?_) _
  simp only [oddTL, List.mem_cons, List.not_mem_nil, or_false] at hx
  rcases hx with h | h | h | h | h | h | h | h <;> subst h <;> first | exact h2 | rfl | decide
/-- what a row of the first law holds -/
def rowOk (d : Dt) : Prop := match d with | .int _ => True | .str t => t.length ≤ 1000 ∧ OkS t | _ => False
theorem rowOk_pl {d : Dt} (h : rowOk d) : pl1 d = true := by
  cases d with
  | int i => rfl
  | str t => exact pl1_str (Nat.le_trans h.1 (by decide)) h.2
  | _ => exact h.elim
theorem pl1_part {d : Dt} {c m : Int} (h : rowOk d) : pl1 (part d c m) = true := by
  cases d with
  | str t =>
    have ht : t.length ≤ 1000 := h.1
    have hk : OkS t := h.2
    refine getD_all (P := fun d => pl1 d = true) rfl (fun x hx => ?_) _
    simp only [partL, List.mem_cons, List.not_mem_nil, or_false] at hx
    rcases hx with h | h | h <;> subst h
    · exact pl1_oddT ht hk
    · refine pl1_str ?_ (ok_app hk (okS_textD _ _))
      rw [List.length_append, textD_len]
      have := mod_bounds (c / 49) (m := 3) (by decide)
      omega
    · rfl
  | _ => exact pl1_oddS _ _
theorem pl2_of_tup {l : List Dt} (h : ∀ d ∈ l, pl1 d = true) : pl2 (.tup l) = true := by
  show (true && l.all pl1) = true
  rw [Bool.true_and]
  exact List.all_eq_true.mpr h
theorem pl2_spoilt {l : List Dt} {c m : Int} (h0 : 0 < l.length) (h : ∀ d ∈ l, rowOk d) : pl2 (spoilt l c m) = true := by
  have hp : ∀ d ∈ l, pl1 d = true := fun d hd => rowOk_pl (h d hd)
  unfold spoilt
  split
  · exact pl2_of_tup hp
  split
  · refine getD_all (P := fun d => pl2 d = true) rfl (fun x hx => ?_) _
    simp only [spoiltL, List.mem_cons, List.not_mem_nil, or_false] at hx
    rcases hx with h | h | h | h | h | h | h | h <;> subst h
    · rfl
    · exact pl2_of_tup fun d hd => hp d (mem_cutD hd)
    · exact pl2_of_tup fun d hd => (List.mem_append.mp hd).elim (hp d) fun z => by rw [List.mem_singleton.mp z]; rfl
    · rfl
    · rfl
    · rfl
    · rfl
    · rfl
  · refine pl2_of_tup fun d hd => ?_
    rcases List.mem_append.mp hd with hd | hd
    · rcases List.mem_append.mp hd with hd | hd
      · exact hp d (mem_cutD hd)
      · rw [List.mem_singleton.mp hd]
        refine pl1_part ?_
        have hb := mod_bounds (c / 7) (m := (l.length : Int)) (by omega)
        have hlt : (c / 7 % (l.length : Int)).toNat < l.length := by omega
        rw [List.getD_eq_getElem?_getD, List.getElem?_eq_getElem hlt]
        exact h _ (List.getElem_mem hlt)
    · exact hp d (mem_cutD hd)
end LM

set_option Elab.async false
set_option linter.all false
set_option maxRecDepth 100000
set_option maxHeartbeats 2000000
/-! DL10: dicts, in data and of one's own. -/
namespace DL
open PySem PySem.Spec L2

/-! ### keys -/
def keyOf : Dt → Option Key
  | .int i => some (.inl i) | .str l => some (.inr ⟨l.toArray⟩) | _ => none
def keysOf : List Dt → Option (List Key)
  | [] => some []
  | d :: r => match keyOf d, keysOf r with
    | some k, some ks => some (k :: ks)
    | _, _ => none
def tkeyOf : Dt → Option (List Key)
  | .tup ds => keysOf ds | _ => none
section
variable {κ : Type} [DecidableEq κ]
def valD (kds : List (κ × Dt)) (k : κ) : Option Dt := (kds.find? fun kd => decide (kd.1 = k)).map (·.2)
def putD (kds : List (κ × Dt)) (k : κ) (d : Dt) : List (κ × Dt) :=
  if (kds.any fun kd => decide (kd.1 = k)) = true then kds.map (fun kd => if kd.1 = k then (kd.1, d) else kd) else kds ++ [(k, d)]
theorem valD_nil {k : κ} : valD ([] : List (κ × Dt)) k = none := rfl
theorem valD_pos {p : κ × Dt} {r : List (κ × Dt)} {k : κ} (e : p.1 = k) : valD (p :: r) k = some p.2 := by simp [valD, List.find?_cons, e]
theorem valD_neg {p : κ × Dt} {r : List (κ × Dt)} {k : κ} (e : ¬ p.1 = k) : valD (p :: r) k = valD r k := by simp [valD, List.find?_cons, e]
theorem valD_any (k : κ) : ∀ kvs : List (κ × Dt), (kvs.any fun kv => decide (kv.1 = k)) = (valD kvs k).isSome
  | [] => rfl
  | p :: r => by
    rw [List.any_cons]
    by_cases e : p.1 = k
    · simp only [valD_pos e, decide_eq_true e, Bool.true_or, Option.isSome_some]
    · rw [valD_neg e, decide_eq_false e, Bool.false_or]; exact valD_any k r
theorem valD_map (k j : κ) (y : Dt) : ∀ kvs : List (κ × Dt), valD (kvs.map fun kv => if kv.1 = k then (kv.1, y) else kv) j = (valD kvs j).map fun x => if j = k then y else x
  | [] => rfl
  | p :: r => by
    have ih := valD_map k j y r
    rw [List.map_cons]
    by_cases h : p.1 = k
    · rw [if_pos h]
      by_cases e : p.1 = j
      · rw [valD_pos (p := (p.1, y)) e, valD_pos e, Option.map_some, if_pos (e.symm.trans h)]
      · rw [valD_neg (p := (p.1, y)) e, valD_neg e, ih]
    · rw [if_neg h]
      by_cases e : p.1 = j
      · rw [valD_pos (p := p) e, valD_pos e, Option.map_some, if_neg (fun z => h (e.trans z))]
      · rw [valD_neg (p := p) e, valD_neg e, ih]
theorem valD_snoc (k j : κ) (y : Dt) : ∀ kvs : List (κ × Dt), valD kvs k = none → valD (kvs ++ [(k, y)]) j = if j = k then some y else valD kvs j
  | [], _ => by
    by_cases e : k = j
    · rw [if_pos e.symm]; exact valD_pos (p := (k, y)) e
    · rw [if_neg (fun z => e z.symm)]; exact valD_neg (p := (k, y)) e
  | p :: r, hn => by
    rw [List.cons_append]
    have hk : ¬ p.1 = k := fun z => by rw [valD_pos z] at hn; cases hn
    rw [valD_neg hk] at hn
    have ih := valD_snoc k j y r hn
    by_cases e : p.1 = j
    · rw [valD_pos e, valD_pos e, if_neg fun z => hk (e.trans z)]
    · rw [valD_neg e, valD_neg e, ih]
theorem valD_put (kvs : List (κ × Dt)) (k j : κ) (y : Dt) : valD (putD kvs k y) j = if j = k then some y else valD kvs j := by
  unfold putD
  by_cases h : (kvs.any fun kv => decide (kv.1 = k)) = true
  · rw [if_pos h, valD_map]
    by_cases e : j = k
    · subst e
      rw [valD_any] at h
      obtain ⟨x, hx⟩ := Option.isSome_iff_exists.mp h
      rw [hx, if_pos rfl]
      simp
    · rw [if_neg e]
      simp [e]
  · rw [if_neg h]
    refine valD_snoc k j y kvs ?_
    rw [valD_any] at h
    cases q : valD kvs k with
    | none => rfl
    | some x => rw [q] at h; exact absurd rfl h
theorem keys_put (kvs : List (κ × Dt)) (k : κ) (y : Dt) : (putD kvs k y).map (·.1) = if (kvs.map (·.1)).contains k = true then kvs.map (·.1) else kvs.map (·.1) ++ [k] := by
  unfold putD
  have e : (kvs.any fun kv => decide (kv.1 = k)) = (kvs.map (·.1)).contains k := by
    rw [Bool.eq_iff_iff, List.any_eq_true, List.contains_iff_mem]
    constructor
    · rintro ⟨x, hx, h⟩
      exact List.mem_map.mpr ⟨x, hx, of_decide_eq_true h⟩
    · intro h
      obtain ⟨x, hx, h⟩ := List.mem_map.mp h
      exact ⟨x, hx, decide_eq_true h⟩
  rw [e]
  split
  · rw [List.map_map]
    refine List.map_congr_left fun x _ => ?_
    show (if x.1 = k then (x.1, y) else x).1 = x.1
    split <;> rfl
  · rw [List.map_append]
    rfl
/-- related tables answer alike -/
theorem val_rel {K : PySem.W.Frag} {F : Hp} (k : κ) : ∀ {kvs : List (κ × V)} {ds : List Dt}, RpA K F (kvs.map (·.2)) ds → (valV kvs k = none ∧ valD ((kvs.map (·.1)).zip ds) k = none) ∨ ∃ x d, valV kvs k = some x ∧ valD ((kvs.map (·.1)).zip ds) k = some d ∧ Rp K F x d
  | [], [], _ => .inl ⟨rfl, rfl⟩
  | [], _ :: _, h => by have := h.len; simp at this
  | p :: r, [], h => by have := h.len; simp at this
  | p :: r, d :: ds, h => by
    obtain ⟨v, rr, e, h1, h2⟩ := RpA.uncons h
    rw [List.map_cons] at e
    injection e with e1 e2
    subst e1; subst e2
    by_cases e : p.1 = k
    · refine .inr ⟨p.2, d, valV_pos e, ?_, h1⟩
      exact valD_pos (p := (p.1, d)) e
    · rcases val_rel k h2 with ⟨q1, q2⟩ | ⟨x, d', q1, q2, q3⟩
      · exact .inl ⟨(valV_neg e).trans q1, (valD_neg (p := (p.1, d)) e).trans q2⟩
      · exact .inr ⟨x, d', (valV_neg e).trans q1, (valD_neg (p := (p.1, d)) e).trans q2, q3⟩
theorem zip_keys {α β : Type} : ∀ (l : List (α × β)), (l.map (·.1)).zip (l.map (·.2)) = l
  | [] => rfl
  | p :: r => by rw [List.map_cons, List.map_cons, List.zip_cons_cons, zip_keys r]
end
def dGet : Dt → Dt → Option (Option Dt)
  | .dk ks ds, y => (keyOf y).map fun k => valD (ks.zip ds) k
  | .dt ks ds, y => (tkeyOf y).map fun k => valD (ks.zip ds) k
  | _, _ => none
section
variable {K : PySem.W.Frag} {F : Hp}
theorem Rp.key {v : V} {d : Dt} {k : Key} (h : Rp K F v d) (e : keyOf d = some k) : v = kV k := by
  cases h <;> first | (cases e; rfl) | cases e
theorem RpA.keys : ∀ {ds : List Dt} {vs : List V} {ks : List Key}, RpA K F vs ds → keysOf ds = some ks → vs = ks.map kV
  | [], vs, ks, h, e => by
    cases e
    exact h.unnil
  | d :: r, vs, ks, h, e => by
    obtain ⟨v, rr, rfl, h1, h2⟩ := h.uncons
    unfold keysOf at e
    cases q1 : keyOf d with
    | none => rw [q1] at e; cases e
    | some k =>
      cases q2 : keysOf r with
      | none => rw [q1, q2] at e; cases e
      | some kr =>
        rw [q1, q2] at e
        cases e
        rw [List.map_cons, h1.key q1, RpA.keys h2 q2]
theorem Rp.tkey {v : V} {d : Dt} {k : List Key} (h : Rp K F v d) (e : tkeyOf d = some k) : ∃ b, v = .ref b ∧ F b = some (.tup (k.map kV)) := by
  cases d with
  | tup ds =>
    obtain ⟨a, xs, rfl, g, ra⟩ := h.tup_of
    rw [RpA.keys ra e] at g
    exact ⟨a, rfl, g⟩
  | _ => cases e
theorem RpA.ofAt {α : Type} {f : α → V} {xs : List α} {ds : List Dt} (hl : xs.length = ds.length) (h : ∀ (i : Nat) (x : α) (d : Dt), xs[i]? = some x → ds[i]? = some d → Rp K F (f x) d) : RpA K F (xs.map f) ds :=
  ⟨by rw [List.length_map]; exact hl, fun i x d a b => by
    rw [List.getElem?_map] at a
    cases q : xs[i]? with
    | none => rw [q] at a; cases a
    | some y => rw [q] at a; cases a; exact h i y d q b⟩
theorem Rp.get {H : Hp} {v y : V} {d k : Dt} {o : Option Dt} (le : ∀ a u, F a = some u → H a = some u) (h : Rp K F v d) (hk : Rp K F y k) (e : dGet d k = some o) : ∃ a ov, v = .ref a ∧ DGet H a y ov ∧ ((ov = none ∧ o = none) ∨ ∃ x d', ov = some x ∧ o = some d' ∧ Rp K F x d') := by
  have rd : ∀ {a : Addr} {u : HO}, Rd F a u → Rd H a u := fun r => r.elim (fun z => .inl (le _ _ z)) fun ⟨o, z⟩ => .inr ⟨o, le _ _ z⟩
  cases h with
  | @dk a kvs ks ds h hk' hl hi =>
    replace e : (keyOf k).map (fun k => valD (ks.zip ds) k) = some o := e
    cases q : keyOf k with
    | none => rw [q] at e; cases e
    | some kk =>
      rw [q] at e
      cases e
      have hv := hk.key q
      have ra : RpA K F (kvs.map (·.2)) ds := .ofAt hl fun i x d a b => hi i x d a b
      refine ⟨a, valV kvs kk, rfl, .inl ⟨kvs, kk, rd h, hv, rfl⟩, ?_⟩
      rw [← hk']
      exact val_rel kk ra
  | @dt a kvs ks ds h hk' hl hi =>
    replace e : (tkeyOf k).map (fun k => valD (ks.zip ds) k) = some o := e
    cases q : tkeyOf k with
    | none => rw [q] at e; cases e
    | some kk =>
      rw [q] at e
      cases e
      obtain ⟨b, hv, hb⟩ := hk.tkey q
      have ra : RpA K F (kvs.map (·.2)) ds := .ofAt hl fun i x d a b => hi i x d a b
      refine ⟨a, valV kvs kk, rfl, .inr ⟨kvs, kk, b, rd h, hv, le _ _ hb, rfl⟩, ?_⟩
      rw [← hk']
      exact val_rel kk ra
  | _ => cases e
end
section
variable {X : Cx} {T : List Addr} {Δ : DEnv} {e a b c : Expr} {es : List Expr} {d d1 d2 d3 : Dt} {ds : List Dt} {r : Res} {pos p : Pos} {st : Stmt} {rest sts : List Stmt} {P : DE}
variable {K : PySem.W.Frag} {fm : Fm} {L : Lk} {O : List Addr} {σ : St} {H H' : Hp} {Q : VK} {W : WX} {D : Ends}
theorem pd_din {o : Option Dt} (hu : X.A.units + 64 < cLine) (hk : PD X T Δ a d1) (hd : PD X T Δ b d2) (h : dGet d2 d1 = some o) (hm : behindInMarks .In b = false := by rfl) : PD X T Δ (.Compare a [.In] [b] pos) (.bl o.isSome) :=
  .of (pe_cmp (pc_din (by omega) canE_ok canE_ok) hm) fun fm L O σ H Q W tk s q => hk.run fm L O σ H _ W tk s fun y H1 g1 s1 r1 => hd.run fm L O σ H1 _ W tk s1 fun x H2 g2 s2 r2 => by
    obtain ⟨ad, ov, ex, g, hh⟩ := r2.get (H := H2) (fun a u e => (mask_some e).1) (r1.mono (g2.mask s2.tO)) h
    refine ⟨ad, ov, ex, g, ?_⟩
    have e : ov.isSome = o.isSome := by
      rcases hh with ⟨h1, h2⟩ | ⟨x, d', h1, h2, _⟩ <;> rw [h1, h2] <;> rfl
    rw [e]
    exact q _ H2 (g1.trans g2) s2 (.bl _)
theorem pd_dnotin {o : Option Dt} (hu : X.A.units + 64 < cLine) (hk : PD X T Δ a d1) (hd : PD X T Δ b d2) (h : dGet d2 d1 = some o) (hm : behindInMarks .NotIn b = false := by rfl) : PD X T Δ (.Compare a [.NotIn] [b] pos) (.bl (!o.isSome)) :=
  .of (pe_cmp (pc_dnotin (by omega) canE_ok canE_ok) hm) fun fm L O σ H Q W tk s q => hk.run fm L O σ H _ W tk s fun y H1 g1 s1 r1 => hd.run fm L O σ H1 _ W tk s1 fun x H2 g2 s2 r2 => by
    obtain ⟨ad, ov, ex, g, hh⟩ := r2.get (H := H2) (fun a u e => (mask_some e).1) (r1.mono (g2.mask s2.tO)) h
    refine ⟨ad, ov, ex, g, ?_⟩
    have e : ov.isSome = o.isSome := by
      rcases hh with ⟨h1, h2⟩ | ⟨x, d', h1, h2, _⟩ <;> rw [h1, h2] <;> rfl
    rw [e]
    exact q _ H2 (g1.trans g2) s2 (.bl _)
theorem pd_dget (hu : X.A.units + 64 < cLine) (hd : PD X T Δ b d2) (hk : PD X T Δ a d1) (h : dGet d2 d1 = some (some d)) (hs : NoSl a := by exact fun _ _ => rfl) : PD X T Δ (.Subscript b a pos) d :=
  .of (pe_dget (by omega) canE_ok canE_ok hs) fun fm L O σ H Q W tk s q => hd.run fm L O σ H _ W tk s fun x H1 g1 s1 r1 => hk.run fm L O σ H1 _ W tk s1 fun y H2 g2 s2 r2 => by
    obtain ⟨ad, ov, ex, g, hh⟩ := (r1.mono (g2.mask s2.tO)).get (H := H2) (fun a u e => (mask_some e).1) r2 h
    rcases hh with ⟨h1, h2⟩ | ⟨x', d', h1, h2, h3⟩
    · cases h2
    · cases h2
      rw [h1] at g
      exact ⟨ad, x', ex, g, q _ H2 (g1.trans g2) s2 h3⟩
/-- d.get(k) -/
theorem Rp.isD {F : Hp} {v : V} (le : ∀ a u, F a = some u → H a = some u) (h : Rp K F v d) (hd : (match d with | .dk _ _ => true | .dt _ _ => true | _ => false) = true) : ∃ a, v = .ref a ∧ IsD H a := by
  have rd : ∀ {a : Addr} {u : HO}, Rd F a u → Rd H a u := fun r => r.elim (fun z => .inl (le _ _ z)) fun ⟨o, z⟩ => .inr ⟨o, le _ _ z⟩
  cases h with
  | dk h _ _ _ => exact ⟨_, rfl, .inl ⟨_, rd h⟩⟩
  | dt h _ _ _ => exact ⟨_, rfl, .inr ⟨_, rd h⟩⟩
  | _ => cases hd
theorem pd_dget1 {o : Option Dt} {apos : Pos} (hu : X.A.units + 64 < cLine) (hd : PD X T Δ b d2) (hk : PD X T Δ a d1) (h : dGet d2 d1 = some o) (hs : starEach [a] X.env = [(false, eval a X.env)] := by rfl) (hbase : attributeBase b "get" X.env (eval b X.env) = eval b X.env := by rfl) (hline : (apos.endLine == pos.line) = true := by rfl) :
    PD X T Δ (.Call (.Attribute b "get" apos) [a] [] pos) (o.getD .non) :=
  .of (pe_dget1 (by omega) canE_ok canE_ok ⟨hbase, by rw [hs]; rfl, hline, by rw [hs]; rfl⟩) fun fm L O σ H Q W tk s q => hd.run fm L O σ H _ W tk s fun x H1 g1 s1 r1 => by
    obtain ⟨ad, ex, hD⟩ := r1.isD (H := H1) (fun a u e => (mask_some e).1) (by
      unfold dGet at h
      split at h
      · rfl
      · rfl
      · cases h)
    refine ⟨ad, ex, hD, hk.run fm L O σ H1 _ W tk s1 fun y H2 g2 s2 r2 => ?_⟩
    obtain ⟨ad', ov, ex', g, hh⟩ := (r1.mono (g2.mask s2.tO)).get (H := H2) (fun a u e => (mask_some e).1) r2 h
    rw [ex] at ex'
    cases ex'
    refine ⟨ov, g, ?_⟩
    rcases hh with ⟨h1, h2⟩ | ⟨x', d', h1, h2, h3⟩
    · rw [h1]
      rw [h2] at q
      exact q _ H2 (g1.trans g2) s2 .non
    · rw [h1]
      rw [h2] at q
      exact q _ H2 (g1.trans g2) s2 h3

/-! ### a dict of one's own -/
theorem KRp.len {κ : Type} {F : Hp} {kvs : List (κ × V)} {kds : List (κ × Dt)} (h : KRp K F kvs kds) : kvs.length = kds.length := by
  have := congrArg List.length h.keys
  simpa using this
theorem put_rel {κ : Type} [DecidableEq κ] {F : Hp} {k : κ} {v : V} {d : Dt} {kvs : List (κ × V)} {kds : List (κ × Dt)} (h : KRp K F kvs kds) (r : Rp K F v d) : KRp K F (putK kvs k v) (putD kds k d) := by
  have key : ∀ {kvs : List (κ × V)} {kds : List (κ × Dt)}, kvs.map (·.1) = kds.map (·.1) → RpA K F (kvs.map (·.2)) (kds.map (·.2)) →
      (kvs.any fun kv => decide (kv.1 = k)) = (kds.any fun kv => decide (kv.1 = k)) ∧ KRp K F (kvs.map (fun kv => if kv.1 = k then (kv.1, v) else kv)) (kds.map (fun kv => if kv.1 = k then (kv.1, d) else kv)) := by
    intro kvs
    induction kvs with
    | nil =>
      intro kds e ra
      cases kds with
      | nil => exact ⟨rfl, rfl, .nil⟩
      | cons => simp at e
    | cons p rest ih =>
      intro kds e ra
      cases kds with
      | nil => simp at e
      | cons q kr =>
        rw [List.map_cons, List.map_cons] at e ra
        injection e with e1 e2
        obtain ⟨v0, rr, ee, h1, h2⟩ := ra.uncons
        injection ee with ee1 ee2
        subst ee1; subst ee2
        obtain ⟨i1, i2⟩ := ih e2 h2
        refine ⟨by rw [List.any_cons, List.any_cons, i1, e1], ?_, ?_⟩
        · have := i2.keys
          rw [List.map_cons, List.map_cons, List.map_cons, List.map_cons, this]
          congr 1
          rw [e1]
          by_cases z : q.1 = k
          · rw [if_pos z, if_pos z]
          · rw [if_neg z, if_neg z, e1]
        · rw [List.map_cons, List.map_cons, List.map_cons, List.map_cons]
          refine .cons ?_ i2.vals
          rw [e1]
          by_cases z : q.1 = k
          · rw [if_pos z, if_pos z]; exact r
          · rw [if_neg z, if_neg z]; exact h1
  obtain ⟨k1, k2⟩ := key h.keys h.vals
  unfold putK putD
  rw [k1]
  split
  · exact k2
  · refine ⟨?_, ?_⟩
    · rw [List.map_append, List.map_append, h.keys]; rfl
    · rw [List.map_append, List.map_append]
      exact h.vals.append (.cons r .nil)
theorem psd_putK (i : Nat) {x : Str} {p1 pos' : Pos} {l : Addr} {br : Bool} {kds : List (Key × Dt)} {k : Key} (hu : X.A.units + 64 < cLine) (hi : Δ[i]? = some (some (.own l br (.dk kds)))) (hk : PD X T Δ a d1) (hv : PD X T Δ b d2) (hkey : keyOf d1 = some k) (hz : kds.length < sizeLine) (h : P.nx (Δ.set i (some (.own l br (.dk (putD kds k d2))))))
    (hN : X.N[i]? = some x := by rfl) (hvs : Vis X.env.scope x := by first | exact Or.inl rfl | exact Or.inr (Or.inl rfl) | exact Or.inr (Or.inr rfl)) (hd : (x == ("__debug__" : Str)) = false := by decide) (hcd : (x == ("__classdict__" : Str)) = false := by decide)
    (hs : swapsWith b (some (.Subscript (.Name x p1) a pos')) pos.line X.env = pure false := by rfl) : PSD X T Δ (.Assign [.Subscript (.Name x p1) a pos'] b pos) P :=
  .of (ps_dput (by omega) (slot_ref i hN hvs hd hcd) canE_ok canE_ok hs) fun fm L O σ H D W tk s em => hv.run fm L O σ H _ W tk s fun v H1 g1 s1 r1 => by
    obtain ⟨h1, h2, _⟩ := s1.ow hi
    refine ⟨.ref l, h1, hk.run fm L O σ H1 _ W tk s1 fun y H2 g2 s2 r2 => ?_⟩
    obtain ⟨_, _, kvs, hl, kr⟩ := s2.ow hi
    have hy := r2.key hkey
    subst hy
    refine ⟨l, _, rfl, DPut.k hl (by rw [kr.len]; exact hz), em.nx O σ _ _ h ?_⟩
    exact s2.own_upd hi ⟨_, upd_same, put_rel kr (r1.mono (g2.mask s2.tO))⟩
theorem psd_putT (i : Nat) {x : Str} {p1 pos' : Pos} {l : Addr} {br : Bool} {kds : List (List Key × Dt)} {k : List Key} (hu : X.A.units + 64 < cLine) (hi : Δ[i]? = some (some (.own l br (.dt kds)))) (hk : PD X T Δ a d1) (hv : PD X T Δ b d2) (hkey : tkeyOf d1 = some k) (hz : kds.length < sizeLine) (h : P.nx (Δ.set i (some (.own l br (.dt (putD kds k d2))))))
    (hN : X.N[i]? = some x := by rfl) (hvs : Vis X.env.scope x := by first | exact Or.inl rfl | exact Or.inr (Or.inl rfl) | exact Or.inr (Or.inr rfl)) (hd : (x == ("__debug__" : Str)) = false := by decide) (hcd : (x == ("__classdict__" : Str)) = false := by decide)
    (hs : swapsWith b (some (.Subscript (.Name x p1) a pos')) pos.line X.env = pure false := by rfl) : PSD X T Δ (.Assign [.Subscript (.Name x p1) a pos'] b pos) P :=
  .of (ps_dput (by omega) (slot_ref i hN hvs hd hcd) canE_ok canE_ok hs) fun fm L O σ H D W tk s em => hv.run fm L O σ H _ W tk s fun v H1 g1 s1 r1 => by
    obtain ⟨h1, h2, _⟩ := s1.ow hi
    refine ⟨.ref l, h1, hk.run fm L O σ H1 _ W tk s1 fun y H2 g2 s2 r2 => ?_⟩
    obtain ⟨_, _, kvs, hl, kr⟩ := s2.ow hi
    obtain ⟨bq, rfl, hb⟩ := r2.tkey hkey
    refine ⟨l, _, rfl, DPut.t hl (mask_some hb).1 (by rw [kr.len]; exact hz), em.nx O σ _ _ h ?_⟩
    exact s2.own_upd hi ⟨_, upd_same, put_rel kr (r1.mono (g2.mask s2.tO))⟩
end
end DL

set_option Elab.async false
set_option linter.all false
set_option maxRecDepth 100000
set_option maxHeartbeats 2000000
/-! DL11: defs that change what is handed in. -/
namespace DL
open PySem PySem.Spec L2
section
variable {X : Cx} {T : List Addr} {Δ : DEnv} {e a b c : Expr} {es : List Expr} {d d1 d2 d3 : Dt} {ds : List Dt} {r : Res} {pos p : Pos} {st : Stmt} {rest sts : List Stmt} {P : DE}
variable {K : PySem.W.Frag} {fm : Fm} {L : Lk} {O : List Addr} {σ : St} {H H' : Hp} {Q : VK} {W : WX} {D : Ends}

/-! ### what is borrowed, read as data -/
def Fm.un (fm : Fm) (l : Addr) : Fm := ⟨fm.O0.filter fun a => decide (a ≠ l), fm.B.filter fun a => decide (a ≠ l), fun a => if a = l then none else fm.H0 a, fm.pins⟩
theorem mem_ne {l a : Addr} {A : List Addr} : a ∈ A.filter (fun a => decide (a ≠ l)) ↔ a ∈ A ∧ a ≠ l := by simp [List.mem_filter]
theorem Sta.unborrow {i : Nat} {l : Addr} {br : Bool} {o : Ow} (s : Sta K T fm L O σ H Δ) (hi : Δ[i]? = some (some (.own l br o))) : Sta K T (fm.un l) L O σ H (Δ.set i (some (.own l false o))) := by
  have hil : i < Δ.length := (List.getElem?_eq_some_iff.mp hi).1
  refine ⟨s.tO, s.tab, s.dom, fun a ha => s.o0 a (mem_ne.mp ha).1, fun a ha => mem_ne.mpr ⟨s.b0 a (mem_ne.mp ha).1, (mem_ne.mp ha).2⟩, fun a ha => ?_, s.pin, fun a u e h1 h2 h3 => ?_, s.lock, by rw [List.length_set]; exact s.len, fun j e he => ?_, fun j l' br' o' he => ?_, fun j k l' b1 b2 o1 o2 h1 h2 => ?_⟩
  · show (if a = l then none else fm.H0 a) ≠ none
    rw [if_neg (mem_ne.mp ha).2]
    exact s.d0 a (mem_ne.mp ha).1
  · have e : (if a = l then none else fm.H0 a) = some u := e
    by_cases z : a = l
    · rw [if_pos z] at e; cases e
    · rw [if_neg z] at e
      exact s.keep a u e h1 (fun q => h2 (mem_ne.mpr ⟨q, z⟩)) h3
  · by_cases hj : i = j
    · subst hj
      rw [List.getElem?_set_self hil] at he
      cases he
      obtain ⟨v, h1, h2⟩ := s.slot i _ hi
      exact ⟨v, h1, h2⟩
    · rw [getset_ne hj] at he
      exact s.slot j e he
  · by_cases hj : i = j
    · subst hj
      rw [List.getElem?_set_self hil] at he
      cases he
      obtain ⟨q1, q2, _⟩ := s.own i l br o hi
      exact ⟨q1, q2, if_pos rfl⟩
    · rw [getset_ne hj] at he
      obtain ⟨q1, q2, q3⟩ := s.own j l' br' o' he
      have ne : l' ≠ l := fun z => by
        subst z
        exact hj (s.sep i j l' br br' o o' hi he)
      refine ⟨q1, q2, ?_⟩
      cases br' with
      | true => exact mem_ne.mpr ⟨q3, ne⟩
      | false =>
        show (if l' = l then none else fm.H0 l') = none
        rw [if_neg ne]
        exact q3
  · have back : ∀ {j : Nat} {l' : Addr} {b1 : Bool} {o1 : Ow}, (Δ.set i (some (.own l false o)))[j]? = some (some (.own l' b1 o1)) → ∃ b2, Δ[j]? = some (some (.own l' b2 o1)) := fun {j l' b1 o1} h => by
      by_cases hj : i = j
      · subst hj
        rw [List.getElem?_set_self hil] at h
        cases h
        exact ⟨br, hi⟩
      · rw [getset_ne hj] at h
        exact ⟨b1, h⟩
    obtain ⟨c1, h1⟩ := back h1
    obtain ⟨c2, h2⟩ := back h2
    exact s.sep j k l' c1 c2 o1 o2 h1 h2
theorem set_set_own {i : Nat} {x y : Option En} : (Δ.set i x).set i y = Δ.set i y := List.set_set ..
/-- an expression that reads one's own thing, borrowed or not, as data -/
theorem pr_viewB (i : Nat) {l : Addr} {br : Bool} {o : Ow} (n : Nat) (hi : Δ[i]? = some (some (.own l br o))) (h : PR X T (Δ.set i (some (.imm o.d))) e r) (hr : imtR n r = true) : PR X T Δ e r :=
  ⟨fun fm L O σ H Q W tk s q => by
    have hil : i < Δ.length := (List.getElem?_eq_some_iff.mp hi).1
    have h' : PR X T (Δ.set i (some (.own l false o))) e r := pr_view i n (by rw [List.getElem?_set_self hil]) (by rw [set_set_own]; exact h) hr
    refine h'.run (fm.un l) L O σ H Q W tk (s.unborrow hi) ?_
    cases r with
    | val d => exact fun v H2 g s2 rv => q v H2 g (s.gr g s2.tab) rv
    | own o2 => exact fun p H2 hp g s2 ow => q p H2 hp g (s.own_hide hp g s2.tab ow.held) ow
    | exc C => exact fun H2 g s2 => q H2 g (s.gr g s2.tab)⟩
theorem ptd_viewB (i : Nat) {l : Addr} {br : Bool} {o : Ow} {k : Bool} (hi : Δ[i]? = some (some (.own l br o))) (h : PTD X T (Δ.set i (some (.imm o.d))) e k) : PTD X T Δ e k :=
  ⟨fun fm L O σ H Q W tk s q => by
    have hil : i < Δ.length := (List.getElem?_eq_some_iff.mp hi).1
    have h' : PTD X T (Δ.set i (some (.own l false o))) e k := ptd_view i (by rw [List.getElem?_set_self hil]) (by rw [set_set_own]; exact h)
    exact h'.run (fm.un l) L O σ H Q W tk (s.unborrow hi) fun H2 g s2 => q H2 g (s.gr g s2.tab)⟩

/-! ### expressions that change what is one's own -/
structure PM (X : Cx) (T : List Addr) (Δ : DEnv) (e : Expr) (d : Dt) (Δ' : DEnv) : Prop where
  run : ∀ (fm : Fm) (L : Lk) (O : List Addr) (σ : St) (H : Hp) (Q : VK) (W : WX), Takes X W → Sta X.K T fm L O σ H Δ → (∀ v H2, Sta X.K T fm L O σ H2 Δ' → Rp X.K (mask H2 O) v d → Q v H2) → canE X e σ H Q
structure PTM (X : Cx) (T : List Addr) (Δ : DEnv) (e : Expr) (k : Bool) (Δ' : DEnv) : Prop where
  run : ∀ (fm : Fm) (L : Lk) (O : List Addr) (σ : St) (H : Hp) (Q : Bool → Hp → Prop) (W : WX), Takes X W → Sta X.K T fm L O σ H Δ → (∀ H2, Sta X.K T fm L O σ H2 Δ' → Q k H2) → canT X e σ H Q
theorem ptm_val {k : Bool} {Δ' : DEnv} (h : PM X T Δ e (.bl k) Δ') (he : ∀ whole, isTrue e X.env whole = (do let v ← whole; standAt e.pos; holding [v] (truthy v)) := by intro _; rfl) : PTM X T Δ e k Δ' :=
  ⟨fun fm L O σ H Q W tk s q => by
    have h1 : PT X e (fun σ H Q => canE X e σ H fun x H' => ∃ k, x = .bl k ∧ Q k H') := by
      refine ⟨fun pins s σ H Q I hw => ?_⟩
      rw [he]
      refine wpAny_bind (thn (hw pins s I) fun v s1 ⟨x, H1, I1, r1, k, ex, q1⟩ => ?_)
      subst ex
      obtain rfl : v = Value.bool k := r1
      exact wpAny_bind (wpAny_standAt (wpAny_holding (wpAny_truthy_bool ⟨H1, I1, q1⟩)))
    intro pins sh I
    exact h1.run pins sh σ H Q I (h.run fm L O σ H _ W tk s fun v H2 s2 rv => ⟨k, rv.bl_of, q H2 s2⟩)⟩
theorem psd_exprM {Δ' : DEnv} (he : PM X T Δ e d Δ') (h : P.nx Δ') (hs : swapsWith e none pos.line X.env = pure false := by rfl) : PSD X T Δ (.Expr e pos) P :=
  .of (ps_expr canE_ok hs) fun fm L O σ H D W tk s em => he.run fm L O σ H _ W tk s fun v H1 s1 _ => em.nx O σ H1 Δ' h s1
theorem psd_ifM {k : Bool} {Δ' : DEnv} {A B : List Stmt} (hc : PTM X T Δ c k Δ') (h1 : k = true → PSsD X T Δ' A P) (h2 : k = false → PSsD X T Δ' B P) : PSD X T Δ (.If c A B pos) P :=
  .of (ps_if canT_ok canSs_ok canSs_ok) fun fm L O σ H D W tk s em => hc.run fm L O σ H _ W tk s fun H1 s1 => by
    cases k with
    | true =>
      show canSs X A D σ H1
      exact (h1 rfl).run fm L O σ H1 D W tk s1 em
    | false =>
      show canSs X B D σ H1
      exact (h2 rfl).run fm L O σ H1 D W tk s1 em
theorem psd_whileM {body : List Stmt} (po : PassesOwn (model X.prog X.w) X.A X.env X.xe) (Iv : Nat → DEnv → Prop) (m0 : Nat) (h0 : Iv m0 Δ)
    (hs : ∀ (m : Nat) (Δ' : DEnv), Iv m Δ' → ∃ k Δ'', PTM X T Δ' c k Δ'' ∧ (k = true → PSsD X T Δ'' body { P with nx := fun Δ'' => ∃ m', m' < m ∧ Iv m' Δ'', ct := fun Δ'' => ∃ m', m' < m ∧ Iv m' Δ'', bk := P.nx }) ∧ (k = false → P.nx Δ'')) : PSD X T Δ (.While c body [] pos) P :=
  .of (ps_while po canT_ok canSs_ok) fun fm L O σ H D W tk s em => by
    refine ⟨fun m σ' H' => ∃ O' Δ', Iv m Δ' ∧ Sta X.K T fm L O' σ' H' Δ', ⟨m0, O, Δ, h0, s⟩, fun m σ' H' ⟨O', Δ', iv, s'⟩ => ?_⟩
    obtain ⟨k, Δ'', hk, h1, h2⟩ := hs m Δ' iv
    refine hk.run fm L O' σ' H' _ W tk s' fun H2 s2 => ?_
    cases k with
    | false => exact em.nx O' σ' H2 Δ'' (h2 rfl) s2
    | true =>
      rw [if_pos rfl]
      refine ⟨fun σ3 H3 => ∃ O3 Δ3, (∃ m', m' < m ∧ Iv m' Δ3) ∧ Sta X.K T fm L O3 σ3 H3 Δ3, fun σ3 H3 ⟨O3, Δ3, ⟨m', hm, iv3⟩, s3⟩ => ⟨m', hm, O3, Δ3, iv3, s3⟩, ?_⟩
      refine (h1 rfl).run fm L O' σ' H2 _ W tk s2 ?_
      exact ⟨fun O σ H Δ h s => ⟨O, Δ, h, s⟩, em.rt, em.ro, em.nx, fun O σ H Δ h s => ⟨O, Δ, h, s⟩, em.ex⟩

/-! ### a call that changes one thing handed in -/
theorem Sta.own_call {i : Nat} {l : Addr} {br : Bool} {o o' : Ow} (s : Sta K T fm L O σ H Δ) (hi : Δ[i]? = some (some (.own l br o))) (g : ∀ a u, a ∉ T → a ≠ l → H a = some u → H' a = some u) (ht : TabOk T H') (hu : OwAt K (mask H' O) H' l o') : Sta K T fm L O σ H' (Δ.set i (some (.own l br o'))) := by
  have hil : i < Δ.length := (List.getElem?_eq_some_iff.mp hi).1
  obtain ⟨hv, hlO, _⟩ := s.ow hi
  obtain ⟨lT, lL, l0⟩ := s.own i l br o hi
  have le : Le (mask H O) (mask H' O) := Le.of_same fun a u e => by
    obtain ⟨e1, e2⟩ := mask_some e
    rw [mask_out e2]
    exact g a u (fun z => e2 (s.tO a z)) (fun z => e2 (z ▸ hlO)) e1
  have noL : ∀ q ∈ L, q.1 ∉ T := fun q hq z => by
    obtain ⟨ps, e, _⟩ := s.tab q.1 z
    rw [s.lock q hq] at e
    cases e
  refine ⟨s.tO, ht, fun a ha => ?_, s.o0, s.b0, s.d0, fun q hq => (s.pin q hq).mono le, fun a u e h1 h2 h3 => ?_, fun q hq => g _ _ (noL q hq) (lL q hq) (s.lock q hq), by rw [List.length_set]; exact s.len, fun j e he => ?_, fun j l' br' o1 he => ?_, fun j k l' b1 b2 o1 o2 h1 h2 => ?_⟩
  · by_cases hT : a ∈ T
    · obtain ⟨ps, e, _⟩ := ht a hT
      exact .of e fun _ z => nomatch z
    · by_cases z : a = l
      · subst z
        exact hu.held
      · exact (s.dom a ha).keep fun u q => g a u hT z q
  · have z : a ≠ l := fun z => by
      subst z
      cases br with
      | true => exact h2 l0
      | false =>
        have l0 : fm.H0 a = none := l0
        rw [l0] at e
        cases e
    exact g a u h1 z (s.keep a u e h1 h2 h3)
  · by_cases hj : i = j
    · subst hj
      rw [List.getElem?_set_self hil] at he
      cases he
      exact ⟨.ref l, hv, rfl, hlO, hu⟩
    · rw [getset_ne hj] at he
      obtain ⟨v, h1, h2⟩ := s.slot j e he
      refine ⟨v, h1, ?_⟩
      cases e with
      | imm d => exact Rp.mono le h2
      | own l' br' o1 =>
        obtain ⟨q1, q2, q3⟩ := h2
        have ne : l' ≠ l := fun z => by
          subst z
          exact hj (s.sep i j l' br br' o o1 hi he)
        exact ⟨q1, q2, q3.mono le fun u hu => g l' u (s.own j l' br' o1 he).1 ne hu⟩
  · by_cases hj : i = j
    · subst hj
      rw [List.getElem?_set_self hil] at he
      cases he
      exact ⟨lT, lL, l0⟩
    · rw [getset_ne hj] at he
      exact s.own j l' br' o1 he
  · have back : ∀ {j : Nat} {l' : Addr} {b1 : Bool} {o1 : Ow}, (Δ.set i (some (.own l br o')))[j]? = some (some (.own l' b1 o1)) → ∃ b2 o2, Δ[j]? = some (some (.own l' b2 o2)) := fun {j l' b1 o1} h => by
      by_cases hj : i = j
      · subst hj
        rw [List.getElem?_set_self hil] at h
        cases h
        exact ⟨br, o, hi⟩
      · rw [getset_ne hj] at h
        exact ⟨b1, o1, h⟩
    obtain ⟨c1, p1, h1⟩ := back h1
    obtain ⟨c2, p2, h2⟩ := back h2
    exact s.sep j k l' c1 c2 p1 p2 h1 h2
/-- the promise of a def that changes its j-th argument: Fn what it held, the other arguments, the result, what it holds then -/
def spB (T : List Addr) (K : PySem.W.Frag) (n j : Nat) (Fn : Ow → List Dt → Dt → Ow → Prop) : Sp := fun vs H Q E => vs.length = n ∧ ∃ O l o ds d o', Pre T O H ∧ l ∈ O ∧ l ∉ T ∧ OwAt K (mask H O) H l o ∧ vs[j]? = some (.ref l) ∧ RpA K (mask H O) (vs.eraseIdx j) ds ∧ Fn o ds d o' ∧
  ∀ v H2, (∀ a u, a ∉ T → a ≠ l → H a = some u → H2 a = some u) → TabOk T H2 → OwAt K (mask H2 O) H2 l o' → Rp K (mask H2 O) v d → Q v H2
abbrev FnB (P : Program) (w : World) (K : PySem.W.Frag) (mg : Str → Option Value) (base : Heap) (T : List Addr) (k : Nat) (f : Addr) (fd : FuncData) (ps : List Str) (j : Nat) (Fn : Ow → List Dt → Dt → Ow → Prop) : Prop := FnOk P w K mg base (L2.CX P w) k f fd ps (spB T K ps.length j Fn)
structure CalleeB (P : Program) (w : World) (K : PySem.W.Frag) (mg : Str → Option Value) (base : Heap) (T : List Addr) (x : Str) (k : Nat) (ps : List Str) (j : Nat) (Fn : Ow → List Dt → Dt → Ow → Prop) : Prop where
  ex : ∃ f fd, FnB P w K mg base T k f fd ps j Fn ∧ mg x = some (.ref f) ∧ PySem.W.keepIn K (.ref f) = true ∧ Binds K fd ps []
/-- arguments, the j-th of which is one's own thing in slot i -/
structure PAB (X : Cx) (T : List Addr) (Δ : DEnv) (es : List Expr) (i j : Nat) (l : Addr) (ds : List Dt) : Prop where
  run : ∀ (fm : Fm) (L : Lk) (O : List Addr) (σ : St) (H : Hp) (Q : List V → Hp → Prop) (W : WX), Takes X W → Sta X.K T fm L O σ H Δ → (∀ vs H2, Gr T H H2 → Sta X.K T fm L O σ H2 Δ → vs[j]? = some (.ref l) → vs.length = ds.length + 1 → RpA X.K (mask H2 O) (vs.eraseIdx j) ds → Q vs H2) → canA X es σ H Q
theorem pab_here (i : Nat) {x : Str} {p1 : Pos} {l : Addr} {br : Bool} {o : Ow} (hi : Δ[i]? = some (some (.own l br o))) (h : PAD X T Δ es ds) (hN : X.N[i]? = some x := by rfl) (hv : Vis X.env.scope x := by first | exact Or.inl rfl | exact Or.inr (Or.inl rfl) | exact Or.inr (Or.inr rfl)) (hd : (x == ("__debug__" : Str)) = false := by decide) (hcd : (x == ("__classdict__" : Str)) = false := by decide)
    (hs : starEach (.Name x p1 :: es) X.env = (false, eval (.Name x p1) X.env) :: starEach es X.env := by rfl) : PAB X T Δ (.Name x p1 :: es) i 0 l ds :=
  ⟨fun fm L O σ H Q W tk s q pos pins sh I => (pa_cons (slot_ref i hN hv hd hcd) canA_ok hs).run pos pins sh σ H Q I (by
    obtain ⟨h1, _, _⟩ := s.ow hi
    exact ⟨.ref l, h1, h.run fm L O σ H _ W tk s fun vs H2 g s2 ra => q (.ref l :: vs) H2 g s2 rfl (by rw [List.length_cons, ra.len]) ra⟩)⟩
theorem pab_later {i j : Nat} {l : Addr} (he : PD X T Δ e d) (h : PAB X T Δ es i j l ds) (hs : starEach (e :: es) X.env = (false, eval e X.env) :: starEach es X.env := by rfl) : PAB X T Δ (e :: es) i (j + 1) l (d :: ds) :=
  ⟨fun fm L O σ H Q W tk s q pos pins sh I => (pa_cons (canE_ok (X := X) (e := e)) canA_ok hs).run pos pins sh σ H Q I (he.run fm L O σ H _ W tk s fun v H1 g1 s1 r1 => h.run fm L O σ H1 _ W tk s1 fun vs H2 g2 s2 e1 e2 ra =>
    q (v :: vs) H2 (g1.trans g2) s2 (by rw [List.getElem?_cons_succ]; exact e1) (by rw [List.length_cons, e2, List.length_cons]) (by rw [List.eraseIdx_cons_succ]; exact .cons (r1.mono (g2.mask s2.tO)) ra))⟩
theorem pm_call {x : Str} {ps : List Str} {k i j : Nat} {l : Addr} {br : Bool} {o o' : Ow} {Fn : Ow → List Dt → Dt → Ow → Prop} (G : CalleeB X.prog X.w X.K X.mg X.base T x k ps j Fn) (hr : Room k X.A) (hi : Δ[i]? = some (some (.own l br o))) (ha : PAB X T Δ (e :: es) i j l ds) (hF : Fn o ds d o') (hlen : ds.length + 1 = ps.length := by rfl) (hg : Gl X x := by rfl) (hdb : (x == ("__debug__" : Str)) = false := by decide)
    (he : starEach (e :: es) X.env = (false, eval e X.env) :: starEach es X.env := by rfl) (hpl : (backTo pos (starEach es X.env)).any (·.1) = false := by rfl) : PM X T Δ (.Call (.Name x p) (e :: es) [] pos) d (Δ.set i (some (.own l br o'))) := by
  obtain ⟨f, fd, h1, h2, h3, h4⟩ := G.ex
  exact ⟨fun fm L O σ H Q W tk s q pins sh I => (pe_callS (E := WE W) h1 hr hg h2 h3 h4 (fun σ => passAt tk σ) canA_ok hdb he hpl).run pins sh σ H Q I (ha.run fm L O σ H _ W tk s fun vs H1 g1 s1 e1 e2 r1 => by
    obtain ⟨_, hlO, how⟩ := s1.ow hi
    exact ⟨by rw [e2]; exact hlen, O, l, o, ds, d, o', s1.pre, hlO, (s1.own i l br o hi).1, how, e1, r1, hF, fun v H2 g t ow rv => q v H2 (s1.own_call hi g t ow) rv⟩)⟩
end
/-! ### such a def by its body -/
def startB (N : List Str) (j : Nat) (l : Addr) (o : Ow) (ds : List Dt) : DEnv := (ds.map fun d => some (En.imm d)).insertIdx j (some (.own l true o)) ++ List.replicate (N.length - (ds.length + 1)) none
def deB (j : Nat) (l : Addr) (d : Dt) (o' : Ow) : DE := { rt := fun Δ' d' => d' = d ∧ ∃ br, Δ'[j]? = some (some (.own l br o')), nx := fun Δ' => d = .non ∧ ∃ br, Δ'[j]? = some (some (.own l br o')) }
section
variable {P : Program} {w : World} {K : PySem.W.Frag} {mg : Str → Option Value} {base : Heap} {T : List Addr}
theorem startB_len {N : List Str} {j : Nat} {l : Addr} {o : Ow} {ds : List Dt} (hj : j ≤ ds.length) (hN : ds.length + 1 ≤ N.length) : (startB N j l o ds).length = N.length := by
  unfold startB
  rw [List.length_append, List.length_insertIdx, List.length_map, List.length_replicate, if_pos hj]
  omega
theorem startB_get {N : List Str} {j : Nat} {l : Addr} {o : Ow} {ds : List Dt} (hj : j ≤ ds.length) {i : Nat} {e : En} (h : (startB N j l o ds)[i]? = some (some e)) : (i = j ∧ e = .own l true o) ∨ (i < j ∧ ∃ d, ds[i]? = some d ∧ e = .imm d) ∨ (j < i ∧ i < ds.length + 1 ∧ ∃ d, ds[i - 1]? = some d ∧ e = .imm d) := by
  unfold startB at h
  by_cases hi : i < ds.length + 1
  · rw [List.getElem?_append_left (by rw [List.length_insertIdx, List.length_map, if_pos hj]; exact hi), List.getElem?_insertIdx] at h
    by_cases h1 : i < j
    · rw [if_pos h1, List.getElem?_map] at h
      cases q : ds[i]? with
      | none => rw [q] at h; cases h
      | some d => rw [q] at h; cases h; exact .inr (.inl ⟨h1, d, rfl, rfl⟩)
    · rw [if_neg h1] at h
      by_cases h2 : i = j
      · rw [if_pos h2, List.length_map, if_pos (by omega)] at h
        cases h
        exact .inl ⟨h2, rfl⟩
      · rw [if_neg h2, List.getElem?_map] at h
        cases q : ds[i - 1]? with
        | none => rw [q] at h; cases h
        | some d => rw [q] at h; cases h; exact .inr (.inr ⟨by omega, hi, d, rfl, rfl⟩)
  · rw [List.getElem?_append_right (by rw [List.length_insertIdx, List.length_map, if_pos hj]; omega), List.getElem?_replicate] at h
    split at h <;> cases h
theorem sta_startB {N : List Str} {j : Nat} {l : Addr} {o : Ow} {vs : List V} {ds : List Dt} {O : List Addr} {H : Hp} (hp : Pre T O H) (hl : vs.length = ds.length + 1) (hN : ds.length + 1 ≤ N.length) (hlO : l ∈ O) (hlT : l ∉ T) (ow : OwAt K (mask H O) H l o) (ej : vs[j]? = some (.ref l)) (ra : RpA K (mask H O) (vs.eraseIdx j) ds) :
    Sta K T ⟨O, [l], H, []⟩ [] O (L2.start N vs) H (startB N j l o ds) := by
  have hj : j ≤ ds.length := by
    have := (List.getElem?_eq_some_iff.mp ej).1
    omega
  have st : ∀ {i : Nat} {v : V}, vs[i]? = some v → (L2.start N vs)[i]? = some (some v) := fun {i v} h => by
    unfold L2.start
    have hi := (List.getElem?_eq_some_iff.mp h).1
    rw [List.getElem?_append_left (by rw [List.length_map]; exact hi), List.getElem?_map, h]
    rfl
  refine ⟨hp.tO, hp.tab, hp.dom, fun _ h => h, fun a ha => by rw [List.mem_singleton.mp ha]; exact hlO, (fun l h => (hp.dom l h).1), (fun _ h => nomatch h), fun _ _ e _ _ _ => e, (fun _ h => nomatch h), ?_, fun i e he => ?_, fun i l' br o' he => ?_, fun i k l' b1 b2 o1 o2 h1 h2 => ?_⟩
  · rw [startB_len hj hN]
    unfold L2.start
    simp [hl]
    omega
  · rcases startB_get hj he with ⟨rfl, rfl⟩ | ⟨h1, d, h2, rfl⟩ | ⟨h1, h3, d, h2, rfl⟩
    · exact ⟨.ref l, st ej, rfl, hlO, ow⟩
    · obtain ⟨v, q1, q2⟩ := ra.get h2
      rw [List.getElem?_eraseIdx, if_pos h1] at q1
      exact ⟨v, st q1, q2⟩
    · obtain ⟨v, q1, q2⟩ := ra.get h2
      rw [List.getElem?_eraseIdx, if_neg (by omega), show i - 1 + 1 = i by omega] at q1
      exact ⟨v, st q1, q2⟩
  · rcases startB_get hj he with ⟨rfl, z⟩ | ⟨_, d, _, z⟩ | ⟨_, _, d, _, z⟩
    · cases z
      exact ⟨hlT, fun _ h => (nomatch h), List.mem_singleton.mpr rfl⟩
    · cases z
    · cases z
  · have one : ∀ {i : Nat} {b : Bool} {o1 : Ow}, (startB N j l o ds)[i]? = some (some (.own l' b o1)) → i = j := fun {i b o1} h => by
      rcases startB_get hj h with ⟨z, _⟩ | ⟨_, d, _, z⟩ | ⟨_, _, d, _, z⟩
      · exact z
      · cases z
      · cases z
    rw [one h1, one h2]
theorem fn_okB {x qual : Str} {st : Stmt} {f : Addr} {fd : FuncData} {N ps : List Str} {k j : Nat} {Fn : Ow → List Dt → Dt → Ow → Prop} (F : Fun K x qual st f fd) (S : FnScope N ps (defScope st)) (hNp : ps.length ≤ N.length)
    (hbody : ∀ (cdv : Value) (A : Around) (outer : List PySem.Env) (s : Shared) (H : Hp) (E : XK) (l : Addr) (o : Ow) (ds : List Dt) (d : Dt) (o' : Ow), Room k (A.deeper (PyProof.Rows.envOfC qual (defScope st) s.heap.objs.size f cdv)) → ds.length + 1 = ps.length → Fn o ds d o' →
      PSsD (cxOf (L2.CX P w) P w K mg base N qual (defScope st) f cdv A outer s H E) T (startB N j l o ds) (defBody st) (deB j l d o')) : FnB P w K mg base T (k + 1) f fd ps j Fn := by
  refine F.okX S (fun vs H Q E h => h.1) (fun cdv A outer s H vs Q E hr h => ?_)
  obtain ⟨hl, O, l, o, ds, d, o', hp, hlO, hlT, ow, ej, ra, hF, ck⟩ := h
  refine ⟨_, canSs_ok, ?_⟩
  have hj := (List.getElem?_eq_some_iff.mp ej).1
  have hlen : ds.length + 1 = ps.length := by
    have := ra.len
    rw [List.length_eraseIdx, if_pos hj] at this
    omega
  refine (hbody cdv A outer s H E l o ds d o' hr hlen hF).run ⟨O, [l], H, []⟩ [] O _ H _ (fun cls d _ H' => E cls d H') (takes_of rfl rfl rfl rfl) (sta_startB hp (by omega) (by omega) hlO hlT ow ej ra) ?_
  have fin : ∀ {O' : List Addr} {σ' : St} {H' : Hp} {Δ' : DEnv} {v : V}, (∃ br, Δ'[j]? = some (some (.own l br o'))) → Sta K T ⟨O, [l], H, []⟩ [] O' σ' H' Δ' → Rp K (mask H' O') v d → Q v H' := fun {O' σ' H' Δ' v} h s' rv => by
    obtain ⟨br, h⟩ := h
    obtain ⟨_, hl', ow'⟩ := s'.ow h
    have le : Le (mask H' O') (mask H' O) := mask_sub s'.o0
    refine ck v H' (fun a u h1 h2 e => s'.keep a u e h1 (fun z => h2 (List.mem_singleton.mp z)) fun _ z => nomatch z) s'.tab (ow'.mono le fun u hu => hu) (rv.mono le)
  refine ⟨fun O' σ' H' Δ' h s' => ?_, fun O' σ' H' Δ' v d' h s' rv => ?_, fun _ _ _ _ _ _ h => h.elim, fun _ _ _ _ h => h.elim, fun _ _ _ _ h => h.elim, fun _ _ _ _ _ h => h.elim⟩
  · obtain ⟨rfl, h⟩ := h
    exact fin h s' .non
  · obtain ⟨rfl, h⟩ := h
    exact fin h s' rv
end
end DL

set_option Elab.async false
set_option linter.all false
set_option maxRecDepth 100000
set_option maxHeartbeats 2000000
/-! DL12: a dict walked. -/
namespace DL
open PySem PySem.Spec L2
section
variable {X : Cx} {T : List Addr} {Δ : DEnv} {e a b c : Expr} {es : List Expr} {d d1 d2 d3 : Dt} {ds : List Dt} {r : Res} {pos p : Pos} {st : Stmt} {rest sts : List Stmt} {P : DE}
variable {K : PySem.W.Frag} {fm : Fm} {L : Lk} {O : List Addr} {σ : St} {H H' : Hp} {Q : VK} {W : WX} {D : Ends}

theorem le_lock {q : Addr} {od : Obj} {u w : HO} (hu : dct u = true) (hw : H q = some w) (h : w = u ∨ ∃ o, w = .frz o u) : Le (mask H O) (mask (upd H q (.frz od u)) O) := by
  have nfx : fx w = false := by
    rcases h with h | ⟨o, h⟩
    · rw [h]
      cases u <;> first | rfl | cases hu
    · rw [h]
      cases u <;> first | rfl | cases hu
  refine ⟨fun a v e i => ?_, fun a v i r => ?_⟩
  · obtain ⟨e1, e2⟩ := mask_some e
    have ne : a ≠ q := fun z => by
      rw [z, hw] at e1
      cases e1
      rw [nfx] at i; cases i
    rw [mask_out e2, upd_ne ne]
    exact e1
  · by_cases z : a = q
    · subst z
      have hv : v = u := by
        rcases r with r | ⟨o, r⟩
        · obtain ⟨e1, _⟩ := mask_some r
          rw [hw] at e1
          cases e1
          rcases h with h | ⟨o', h⟩
          · exact h
          · rw [h] at i; cases i
        · obtain ⟨e1, _⟩ := mask_some r
          rw [hw] at e1
          cases e1
          rcases h with h | ⟨o', h⟩
          · rw [← h] at hu; cases hu
          · cases h; rfl
      have hO : a ∉ O := by
        rcases r with r | ⟨o, r⟩ <;> exact (mask_some r).2
      refine .inr ⟨od, ?_⟩
      rw [mask_out hO, upd_same, hv]
    · rcases r with r | ⟨o, r⟩
      · obtain ⟨e1, e2⟩ := mask_some r
        exact .inl (by rw [mask_out e2, upd_ne z]; exact e1)
      · obtain ⟨e1, e2⟩ := mask_some r
        exact .inr ⟨o, by rw [mask_out e2, upd_ne z]; exact e1⟩
theorem le_unlock {q : Addr} {od : Obj} {u w : HO} (hu : dct u = true) (hq : H q = some (.frz od u)) (h : w = u ∨ ∃ o, w = .frz o u) : Le (mask H O) (mask (upd H q w) O) := by
  refine ⟨fun a v e i => ?_, fun a v i r => ?_⟩
  · obtain ⟨e1, e2⟩ := mask_some e
    have ne : a ≠ q := fun z => by
      rw [z, hq] at e1
      cases e1
      cases u <;> first | (cases hu; done) | (cases i; done)
    rw [mask_out e2, upd_ne ne]
    exact e1
  · by_cases z : a = q
    · subst z
      have hv : v = u ∧ a ∉ O := by
        rcases r with r | ⟨o, r⟩
        · obtain ⟨e1, e2⟩ := mask_some r
          rw [hq] at e1
          cases e1
          cases i
        · obtain ⟨e1, e2⟩ := mask_some r
          rw [hq] at e1
          cases e1
          exact ⟨rfl, e2⟩
      rcases h with h | ⟨o, h⟩
      · exact .inl (by rw [mask_out hv.2, upd_same, h, hv.1])
      · exact .inr ⟨o, by rw [mask_out hv.2, upd_same, h, hv.1]⟩
    · rcases r with r | ⟨o, r⟩
      · obtain ⟨e1, e2⟩ := mask_some r
        exact .inl (by rw [mask_out e2, upd_ne z]; exact e1)
      · obtain ⟨e1, e2⟩ := mask_some r
        exact .inr ⟨o, by rw [mask_out e2, upd_ne z]; exact e1⟩
theorem ow_ne {l q : Addr} {o : Ow} {F : Hp} {u : HO} {od : Obj} (h : OwAt K F H l o) (hq : H q = some (.frz od u)) : l ≠ q := fun z => by
  obtain ⟨v, hv, mv⟩ := h.there
  rw [z, hq] at hv
  cases hv
  exact mv
theorem Sta.lockd {q : Addr} {od : Obj} {u w : HO} (s : Sta K T fm L O σ H Δ) (hu : dct u = true) (hw : H q = some w) (h : w = u ∨ ∃ o, w = .frz o u) (hO : q ∉ O) (hL : ∀ p ∈ L, p.1 = q → w = .frz od u ∧ p.2 = (od, u)) : Sta K T fm ((q, od, u) :: L) O σ (upd H q (.frz od u)) Δ := by
  have le := le_lock (O := O) (od := od) hu hw h
  have nT : q ∉ T := fun z => hO (s.tO q z)
  refine ⟨s.tO, fun P hP => ?_, fun l hl => ?_, s.o0, s.b0, s.d0, fun p hp => (s.pin p hp).mono le, fun a v e h1 h2 h3 => ?_, fun p hp => ?_, s.len, fun i e he => ?_, fun i l br o he => ?_, s.sep⟩
  · obtain ⟨ps, e, t⟩ := s.tab P hP
    exact ⟨ps, by rw [upd_ne fun (z : P = q) => nT (z ▸ hP)]; exact e, t⟩
  · exact (s.dom l hl).keep fun v e => by rw [upd_ne fun (z : l = q) => hO (z ▸ hl)]; exact e
  · have ne : a ≠ q := fun z => h3 _ List.mem_cons_self z.symm
    rw [upd_ne ne]
    exact s.keep a v e h1 h2 fun p hp => h3 p (List.mem_cons_of_mem _ hp)
  · rcases List.mem_cons.mp hp with z | hp
    · rw [z]; exact upd_same
    · by_cases z : p.1 = q
      · rw [z, upd_same, (hL p hp z).2]
      · rw [upd_ne z]
        exact s.lock p hp
  · obtain ⟨v, h1, h2⟩ := s.slot i e he
    refine ⟨v, h1, ?_⟩
    cases e with
    | imm d => exact Rp.mono le h2
    | own l br o =>
      obtain ⟨q1, q2, q3⟩ := h2
      exact ⟨q1, q2, q3.mono le fun v hv => by rw [upd_ne fun (z : l = q) => hO (z ▸ q2)]; exact hv⟩
  · obtain ⟨q1, q2, q3⟩ := s.own i l br o he
    obtain ⟨_, hlO, _⟩ := s.ow he
    refine ⟨q1, fun p hp => ?_, q3⟩
    rcases List.mem_cons.mp hp with z | hp
    · rw [z]; exact fun z => hO (by rw [show q = l from z]; exact hlO)
    · exact q2 p hp
theorem Sta.unlockd {q : Addr} {od : Obj} {u w : HO} {H0 : Hp} {O0 : List Addr} {σ0 : St} {Δ0 : DEnv} (s0 : Sta K T fm L O0 σ0 H0 Δ0) (hw : H0 q = some w) (hu : dct u = true) (h : w = u ∨ ∃ o, w = .frz o u) (nT : q ∉ T) (s : Sta K T fm ((q, od, u) :: L) O σ H Δ) : Sta K T fm L O σ (upd H q w) Δ := by
  have hq : H q = some (.frz od u) := s.lock _ List.mem_cons_self
  have le := le_unlock (O := O) hu hq h
  refine ⟨s.tO, fun P hP => ?_, fun l hl => ?_, s.o0, s.b0, s.d0, fun p hp => (s.pin p hp).mono le, fun a v e h1 h2 h3 => ?_, fun p hp => ?_, s.len, fun i e he => ?_, fun i l br o he => ?_, s.sep⟩
  · obtain ⟨ps, e, t⟩ := s.tab P hP
    exact ⟨ps, by rw [upd_ne fun (z : P = q) => nT (z ▸ hP)]; exact e, t⟩
  · by_cases z : l = q
    · rw [z]; exact .of upd_same fun xs e => by
        subst e
        rcases h with h | ⟨o, h⟩
        · rw [← h] at hu; cases hu
        · cases h
    · exact (s.dom l hl).keep fun v e => by rw [upd_ne z]; exact e
  · by_cases z : a = q
    · subst z
      rw [upd_same, ← hw]
      exact s0.keep a v e h1 h2 h3
    · rw [upd_ne z]
      exact s.keep a v e h1 h2 fun p hp => by
        rcases List.mem_cons.mp hp with y | hp
        · rw [y]; exact fun y => z y.symm
        · exact h3 p hp
  · by_cases z : p.1 = q
    · rw [z, upd_same, ← hw, ← z]
      exact s0.lock p hp
    · rw [upd_ne z]
      exact s.lock p (List.mem_cons_of_mem _ hp)
  · obtain ⟨v, h1, h2⟩ := s.slot i e he
    refine ⟨v, h1, ?_⟩
    cases e with
    | imm d => exact Rp.mono le h2
    | own l br o =>
      obtain ⟨q1, q2, q3⟩ := h2
      exact ⟨q1, q2, q3.mono le fun v hv => by rw [upd_ne (ow_ne q3 hq)]; exact hv⟩
  · obtain ⟨q1, q2, q3⟩ := s.own i l br o he
    exact ⟨q1, fun p hp => q2 p (List.mem_cons_of_mem _ hp), q3⟩

/-- a loop's reading, from what the iterator gives -/
theorem for_read {tg : Expr} {body : List Stmt} {items : List Dt} {J : It} {Iv : Nat → DEnv → Prop} (ok : ItOk X.K T J fm L items) (h0 : Iv 0 Δ)
    (hs : ∀ (i : Nat) (d : Dt) (Δ' : DEnv), items[i]? = some d → Iv i Δ' → ∃ js Δ'', GD X T tg d js Δ' Δ'' ∧ PSsD X T Δ'' body { P with nx := Iv (i + 1), ct := Iv (i + 1), bk := P.nx }) (hd : ∀ Δ', Iv items.length Δ' → P.nx Δ')
    (tk : Takes X W) (s : Sta X.K T fm L O σ H Δ) (em : Emb X.K T fm L P D W) :
    ∃ W' : Nat → Nat → St → Hp → Prop, (∃ m, W' 0 m σ H) ∧ ∀ i m σ H, W' i m σ H → (J.stop i H ∧ D.nx σ H) ∨ (J.go i H ∧ ∃ N : St → Hp → Prop, (∀ σ' H', N σ' H' → ∃ m', m' < m ∧ W' (i + 1) m' σ' H') ∧ ∀ x H', J.yld i H x H' → canG X tg x σ H' fun σ2 H2 => canSs X body { D with nx := N, ct := N, bk := D.nx } σ2 H2) := by
  refine ⟨fun i m σ' H' => m = items.length - i ∧ i ≤ items.length ∧ ∃ O' Δ', Iv i Δ' ∧ Sta X.K T fm L O' σ' H' Δ', ⟨items.length, by simp, Nat.zero_le _, O, Δ, h0, s⟩, ?_⟩
  rintro i m σ' H' ⟨rfl, hi, O', Δ', iv, s'⟩
  by_cases hlt : i < items.length
  · refine .inr ⟨ok.go O' σ' H' Δ' i s' hlt, fun σ2 H2 => ∃ O2 Δ2, Iv (i + 1) Δ2 ∧ Sta X.K T fm L O2 σ2 H2 Δ2, fun σ2 H2 ⟨O2, Δ2, iv2, s2⟩ => ⟨items.length - (i + 1), by omega, rfl, hlt, O2, Δ2, iv2, s2⟩, fun x H2 hy => ?_⟩
    obtain ⟨g2, t2, rx⟩ := ok.yld O' σ' H' Δ' i x H2 items[i] s' (List.getElem?_eq_getElem hlt) hy
    obtain ⟨js, Δ'', hgd, hb⟩ := hs i items[i] Δ' (List.getElem?_eq_getElem hlt) iv
    refine hgd.run fm L O' σ' H2 x _ (s'.gr g2 t2) rx fun σ2 s2 _ => hb.run fm L O' σ2 H2 _ W tk s2 ?_
    exact ⟨fun O σ H Δ h s => ⟨O, Δ, h, s⟩, em.rt, em.ro, fun O σ H Δ h s => em.nx O σ H Δ h s, fun O σ H Δ h s => ⟨O, Δ, h, s⟩, em.ex⟩
  · have e : i = items.length := by omega
    subst e
    exact .inl ⟨ok.stop O' σ' H' Δ' s', em.nx O' σ' H' Δ' (hd Δ' iv) s'⟩
def keyD : Key → Dt | .inl i => .int i | .inr s => .str s.cps.toList
theorem rp_key {F : Hp} (k : Key) : Rp K F (kV k) (keyD k) := by
  cases k with
  | inl i => exact .int i
  | inr s => exact rp_str s
def tkeyD (k : List Key) : Dt := .tup (k.map keyD)
theorem itk_ok {q : Addr} {od : Obj} {kvs : List (Key × V)} : ItOk K T (Itk q od kvs) fm ((q, od, .dK kvs) :: L) (kvs.map fun kv => keyD kv.1) where
  go := fun O σ H Δ i s hi => ⟨s.lock _ List.mem_cons_self, by rw [List.length_map] at hi; exact hi⟩
  stop := fun O σ H Δ s => ⟨s.lock _ List.mem_cons_self, by rw [List.length_map]; exact Nat.le_refl _⟩
  yld := fun O σ H Δ i x H2 d s hd hy => by
    obtain ⟨rfl, k, v, e, rfl⟩ := hy
    rw [List.getElem?_map, e] at hd
    cases hd
    exact ⟨Gr.refl, s.tab, rp_key k⟩
/-- for tg in d, d a dict that is data: its keys -/
theorem psd_forK {x : Str} {tg : Expr} {p1 : Pos} {body : List Stmt} {ks : List Key} {ds : List Dt} (i : Nat) (po : PassesOwn (model X.prog X.w) X.A X.env X.xe) (hc : X.calm = true) (hi : Δ[i]? = some (some (.imm (.dk ks ds)))) (Iv : Nat → DEnv → Prop) (h0 : Iv 0 Δ)
    (hs : ∀ (j : Nat) (k : Key) (Δ' : DEnv), ks[j]? = some k → Iv j Δ' → ∃ js Δ'', GD X T tg (keyD k) js Δ' Δ'' ∧ PSsD X T Δ'' body { P with nx := Iv (j + 1), ct := Iv (j + 1), bk := P.nx }) (hd : ∀ Δ', Iv ks.length Δ' → P.nx Δ') (hx : ∀ Δ' C, ¬ P.ex Δ' C)
    (hN : X.N[i]? = some x := by rfl) (hv : Vis X.env.scope x := by first | exact Or.inl rfl | exact Or.inr (Or.inl rfl) | exact Or.inr (Or.inr rfl)) (hdb : (x == ("__debug__" : Str)) = false := by decide) (hcd : (x == ("__classdict__" : Str)) = false := by decide)
    (hfs : ∀ y, foldedSetIterable (.Name x p1) X.env y = pure y := by intro _; rfl) : PSD X T Δ (.For tg (.Name x p1) body [] pos) P :=
  ⟨fun fm L O σ H D W tk s em pins sh I => by
    obtain ⟨v, hσ, rv⟩ := s.imm hi
    cases rv with
    | @dk q kvs _ _ hrd hk hl hitems =>
      have rdH : Rd H q (.dK kvs) := hrd.elim (fun z => .inl (mask_some z).1) fun ⟨o, z⟩ => .inr ⟨o, (mask_some z).1⟩
      have hO : q ∉ O := hrd.elim (fun z => (mask_some z).2) fun ⟨o, z⟩ => (mask_some z).2
      have nT : q ∉ T := fun z => hO (s.tO q z)
      have hitems' : (kvs.map fun kv => keyD kv.1) = ks.map keyD := by rw [← hk, List.map_map]; rfl
      have hlen : kvs.length = ks.length := by rw [← hk, List.length_map]
      -- the body of the proof, the lock laid
      have main : ∀ (w : HO) (od : Obj) (D' : Ends), H q = some w → (w = .dK kvs ∨ ∃ o, w = .frz o (.dK kvs)) → (∀ p ∈ L, p.1 = q → w = .frz od (.dK kvs) ∧ p.2 = (od, .dK kvs)) → Emb X.K T fm ((q, od, .dK kvs) :: L) P D' W →
          (tFor (iKeys (tVar i)) (canG X tg) (canSs X body)) D' σ (upd H q (.frz od (.dK kvs))) := by
        intro w od D' hw h hL emL
        have sl := s.lockd (od := od) (u := .dK kvs) rfl hw h hO hL
        refine ⟨.ref q, hσ, q, od, rfl, .inl ⟨kvs, upd_same, ?_⟩⟩
        exact for_read (P := P) (Iv := Iv) itk_ok h0 (fun j d Δ' hj iv => by
          rw [hitems', List.getElem?_map] at hj
          cases e : ks[j]? with
          | none => rw [e] at hj; cases hj
          | some k =>
            rw [e] at hj
            cases hj
            exact hs j k Δ' e iv) (fun Δ' iv => hd Δ' (by rw [List.length_map, hlen] at iv; exact iv)) tk sl emL
      have vs := slot_ref (X := X) (pos' := p1) i hN hv hdb hcd
      rcases rdH with hp | ⟨o, hp⟩
      · refine (ps_lock (ps_for po hc (pi_keys vs) canG_ok canSs_ok hfs)).run pins sh σ H D I ⟨q, .dK kvs, hp, trivial, fun od => ?_⟩
        have h : (HO.dK kvs) = .dK kvs ∨ ∃ o, HO.dK kvs = .frz o (.dK kvs) := .inl rfl
        have un : ∀ {O' : List Addr} {σ' : St} {H' : Hp} {Δ' : DEnv}, Sta X.K T fm ((q, od, .dK kvs) :: L) O' σ' H' Δ' → Sta X.K T fm L O' σ' (upd H' q (.dK kvs)) Δ' := fun s' => s.unlockd hp rfl h nT s'
        refine main _ od _ hp h (fun p hp' z => ?_) ⟨fun O' σ' H' Δ' hp s' => ⟨s'.lock _ List.mem_cons_self, em.nx O' σ' _ Δ' hp (un s')⟩, fun O' σ' H' Δ' v d hp s' rv => ⟨s'.lock _ List.mem_cons_self, em.rt O' σ' _ Δ' v d hp (un s') (rv.mono (le_unlock rfl (s'.lock _ List.mem_cons_self) h))⟩,
            fun O' σ' H' Δ' l o hp s' hl h0 ow => ⟨s'.lock _ List.mem_cons_self, em.ro O' σ' _ Δ' l o hp (un s') hl h0 (ow.mono (le_unlock rfl (s'.lock _ List.mem_cons_self) h) fun u hu => by rw [upd_ne (ow_ne ow (s'.lock _ List.mem_cons_self))]; exact hu)⟩,
            fun O' σ' H' Δ' hp s' => ⟨s'.lock _ List.mem_cons_self, em.bk O' σ' _ Δ' hp (un s')⟩, fun O' σ' H' Δ' hp s' => ⟨s'.lock _ List.mem_cons_self, em.ct O' σ' _ Δ' hp (un s')⟩, fun _ _ _ Δ' C hp _ => (hx Δ' C hp).elim⟩
        have := s.lock p hp'
        rw [z, hp] at this
        cases this
      · have same : ∀ {H' : Hp}, H' q = some (.frz o (.dK kvs)) → upd H' q (.frz o (.dK kvs)) = H' := fun {H'} hp => by
          funext b
          by_cases z : b = q
          · rw [z, upd_same, hp]
          · rw [upd_ne z]
        have h : (HO.frz o (.dK kvs)) = .dK kvs ∨ ∃ o', HO.frz o (.dK kvs) = .frz o' (.dK kvs) := .inr ⟨o, rfl⟩
        have un : ∀ {O' : List Addr} {σ' : St} {H' : Hp} {Δ' : DEnv}, Sta X.K T fm ((q, o, .dK kvs) :: L) O' σ' H' Δ' → Sta X.K T fm L O' σ' H' Δ' := fun {O' σ' H' Δ'} s' => by
          have := s.unlockd hp rfl h nT s'
          rw [same (s'.lock _ List.mem_cons_self)] at this
          exact this
        have m := main _ o D hp h (fun p hp' z => by
          obtain ⟨p1, p2, p3⟩ := p
          have := s.lock _ hp'
          have z : p1 = q := z
          subst z
          rw [hp] at this
          cases this
          exact ⟨rfl, rfl⟩) ⟨fun O' σ' H' Δ' hp s' => em.nx O' σ' _ Δ' hp (un s'), fun O' σ' H' Δ' v d hp s' rv => em.rt O' σ' _ Δ' v d hp (un s') rv, fun O' σ' H' Δ' l o hp s' hl h0 ow => em.ro O' σ' _ Δ' l o hp (un s') hl h0 ow,
            fun O' σ' H' Δ' hp s' => em.bk O' σ' _ Δ' hp (un s'), fun O' σ' H' Δ' hp s' => em.ct O' σ' _ Δ' hp (un s'), fun _ _ _ Δ' C hp _ => (hx Δ' C hp).elim⟩
        rw [same hp] at m
        exact (ps_for po hc (pi_keys vs) canG_ok canSs_ok hfs).run pins sh σ H D I m⟩
end
end DL
namespace DL
open PySem PySem.Spec L2
section
variable {X : Cx} {T : List Addr} {Δ : DEnv} {a b : Expr} {d1 d2 : Dt} {pos : Pos}
theorem ptd_din {o : Option Dt} (hu : X.A.units + 64 < cLine) (hk : PD X T Δ a d1) (hd : PD X T Δ b d2) (h : dGet d2 d1 = some o) (hm : behindInMarks .In b = false := by rfl) : PTD X T Δ (.Compare a [.In] [b] pos) o.isSome :=
  .of (pt_cmp (pc_din (by omega) canE_ok canE_ok) hm) fun fm L O σ H Q W tk s q => hk.run fm L O σ H _ W tk s fun y H1 g1 s1 r1 => hd.run fm L O σ H1 _ W tk s1 fun x H2 g2 s2 r2 => by
    obtain ⟨ad, ov, ex, g, hh⟩ := r2.get (H := H2) (fun a u e => (mask_some e).1) (r1.mono (g2.mask s2.tO)) h
    refine ⟨ad, ov, ex, g, _, rfl, ?_⟩
    have e : ov.isSome = o.isSome := by
      rcases hh with ⟨h1, h2⟩ | ⟨x, d', h1, h2, _⟩ <;> rw [h1, h2] <;> rfl
    rw [e]
    exact q H2 (g1.trans g2) s2
theorem ptd_dnotin {o : Option Dt} (hu : X.A.units + 64 < cLine) (hk : PD X T Δ a d1) (hd : PD X T Δ b d2) (h : dGet d2 d1 = some o) (hm : behindInMarks .NotIn b = false := by rfl) : PTD X T Δ (.Compare a [.NotIn] [b] pos) (!o.isSome) :=
  .of (pt_cmp (pc_dnotin (by omega) canE_ok canE_ok) hm) fun fm L O σ H Q W tk s q => hk.run fm L O σ H _ W tk s fun y H1 g1 s1 r1 => hd.run fm L O σ H1 _ W tk s1 fun x H2 g2 s2 r2 => by
    obtain ⟨ad, ov, ex, g, hh⟩ := r2.get (H := H2) (fun a u e => (mask_some e).1) (r1.mono (g2.mask s2.tO)) h
    refine ⟨ad, ov, ex, g, _, rfl, ?_⟩
    have e : ov.isSome = o.isSome := by
      rcases hh with ⟨h1, h2⟩ | ⟨x, d', h1, h2, _⟩ <;> rw [h1, h2] <;> rfl
    rw [e]
    exact q H2 (g1.trans g2) s2
end
end DL

set_option Elab.async false
set_option linter.all false
set_option maxRecDepth 100000
set_option maxHeartbeats 2000000
/-! GD: {k: v for target in iter}, k a tuple of ints and texts. -/
namespace DL
open PySem PySem.Spec PyProof.Rows L2
section
variable {X : Cx}
theorem setT_new {pins : List (Addr × Obj)} {σ : L2.St} {H : Hp} {s : Shared} {E : Value → Shared → Prop} {B q : Addr} {tab : List (List Key × V)} {ky : List Key} {x : V} {r : Value} {Q : Unit → Shared → Prop} (hu : X.A.units < cLine) (I : Inv X pins σ H s) (at_ : H B = some (.dT tab)) (room : tab.length < sizeLine)
    (atq : H q = some (.tup (ky.map kV))) (rel : RelV x r) (fin : ∀ s', Inv X pins σ (upd H B (.dT (putK tab ky x))) s' → Q () s') : wpAny (model X.prog X.w) X.A (dictSet B (.ref q) r) Q E s := by
  obtain ⟨_, nm, xs, prs, big⟩ := dt_of I.hok at_
  have few : xs.length ≤ sizeLine := by rw [← Paired.length prs]; omega
  have few2 : (putK tab ky x).length ≤ sizeLine := by have := length_putK tab ky x; omega
  refine wpAny_dictSet_heap (knd := tupleKind (mixKind X.prog X.w)) (hsz := few) hu (key_of I.hok atq) big fun hp' big' same => ?_
  refine fin _ ?_
  obtain ⟨ob, es, ep, at1, at2, at3, at4, _, at5⟩ := big'
  refine d_write I (by rw [at_]; exact True.intro) same ⟨ob, at1⟩ ?_
  refine ⟨few2, nm, _, (prs.put ky atq rel).keeps fun c ys ec => ?_, ob, es, ep, at1, at2, at3, at4, at5⟩
  by_cases z : c = B
  · rw [z, at_] at ec; cases ec
  · rw [upd_ne z]; exact ec
/-- what is wanted of such a comprehension -/
def tDcT (wi : TI) (g : TG) (tk tv : TE) (vs : List Nat) : TE := fun σ H Q => wi σ H fun J H1 => ∀ B, H1 B = none → ∃ W : Nat → Nat → Hp → Prop, (∃ m, W 0 m (upd H1 B (.dT []))) ∧ ∀ i m H, W i m H →
  (J.stop i H ∧ Q (.ref B) H) ∨ (J.go i H ∧ ∃ Nx : Hp → Prop, (∀ H', Nx H' → ∃ m', m' < m ∧ W (i + 1) m' H') ∧ ∀ x H', J.yld i H x H' → g x (wipe σ vs) H' fun σ2 H2 => wipe σ2 vs = wipe σ vs ∧
    tk σ2 H2 fun y H4 => tv σ2 H4 fun z H5 => ∃ tab ky q, y = .ref q ∧ H5 q = some (.tup (ky.map kV)) ∧ H5 B = some (.dT tab) ∧ tab.length < sizeLine ∧ Nx (upd H5 B (.dT (putK tab ky z))))
theorem dcT_core {pins : List (Addr × Obj)} {s : Shared} {σ : L2.St} {H : Hp} {Q : VK} {kx vx tg iter : Expr} {scope : Scope} {own : List (Str × Nat)} {pos pos' : Pos} {wi : TI} {g : TG} {tk tv : TE} {use : Option (Value → Sem Unit)} {Qf : Value → Shared → Prop} (I : Inv X pins σ H s) (hc : X.calm = true) (hu : X.A.units < cLine) (hN : X.N.Nodup) (hi : PI X tg iter wi) (ok : BlkOk X.N X.env.scope scope own)
    (hg : ∀ s H C cl fp, PG (blkX X scope s H C cl fp) tg g) (hk : ∀ s H C cl fp, PE (blkX X scope s H C cl fp) kx tk) (hv : ∀ s H C cl fp, PE (blkX X scope s H C cl fp) vx tv) (hs : ∀ x, foldedSetIterable iter X.env x = pure x)
    (want : tDcT wi g tk tv (own.map (·.2)) σ H Q)
    (after : ∀ B C s' m H', Inv X pins σ H' s' → Q (.ref B) H' → s'.heap.Ns C m → FpOk X pins H' C → compPost (model X.prog X.w) X.A X.xe use Qf (.ref B) C (.ok .next) s') :
    wpAny (model X.prog X.w) X.A (comprehension (.DictComp kx vx [⟨tg, iter, [], 0⟩] scope pos) scope X.env pos' newDict false (eval iter X.env) use) Qf X.xe s := by
  have caught : ∀ y ∈ scope.names, y.2 = .free → ∃ c, X.env.cells.lookup y.1 = some c := fun y hy e =>
    (ok.free y hy e).elim (fun k => I.ok.has _ (.inl k)) fun k => I.ok.has _ (.inr k)
  refine wpAny_comprehension_free (use := use) rfl hs (closure_ok caught) ok.kind (fun y hy e => by rw [ok.uniq y hy, e]) ?_
  refine thn (hi.run pins s σ H _ I want) fun _ s1 h1 => thn h1 fun _ s2 h2 => ?_
  obtain ⟨it, fp, tn, J, HA, rfl, IA, T, stA, okA, want2⟩ := h2
  refine wpAny_newObj_type (newEnv_comp ?_)
  -- the new dict stands at B
  obtain ⟨B, hB⟩ : ∃ B, B = s2.heap.objs.size := ⟨_, rfl⟩
  have freshB : HA B = none := IA.hok.fresh (by rw [hB]; exact Nat.le_refl _)
  obtain ⟨W, ⟨m0, w0⟩, turn⟩ := want2 B freshB
  have IB : Inv X pins σ (upd HA B (.dT [])) { s2 with heap := s2.heap.push { cls := .type "dict", data := .dict #[] } } := by
    rw [hB]
    exact IA.laid (t' := s2.toks) (fun _ _ e => Heap.get?_push_of_some _ e) (Nat.le_refl _) (dt_empty s2.heap IA.big)
  have young : ∀ b ∈ fp, b < s2.heap.objs.size := fun b hb => by
    obtain ⟨_, e, _⟩ := T.obj _ _ stA b hb
    exact Heap.lt_size e
  have okB : ∀ b ∈ fp, FpOk X pins (upd HA B (.dT [])) b ∧ b < (s2.heap.push { cls := .type "dict", data := .dict #[] }).objs.size := fun b hb =>
    ⟨⟨by rw [upd_ne (by rw [hB]; exact Nat.ne_of_lt (young b hb))]; exact (okA b hb).1, (okA b hb).2⟩, by rw [Heap.size_push]; exact Nat.lt_succ_of_lt (young b hb)⟩
  have stB : tn 0 (s2.heap.push { cls := .type "dict", data := .dict #[] }) := T.keep _ _ _ stA fun _ _ _ e => Heap.get?_push_of_some _ e
  rw [← hB]
  generalize hHB : upd HA B (.dT []) = HB at IB okB w0
  generalize hsB : ({ s2 with heap := s2.heap.push { cls := .type "dict", data := .dict #[] } } : Shared) = sB at IB ⊢
  have hpB : sB.heap = s2.heap.push { cls := .type "dict", data := .dict #[] } := by rw [← hsB]
  rw [← hpB] at stB
  have okB : ∀ b ∈ fp, FpOk X pins HB b ∧ b < sB.heap.objs.size := fun b hb => by rw [hpB]; exact okB b hb
  have IC := block_start IB ok hN okB
  obtain ⟨cl, hcl⟩ : ∃ cl, cl = cellsFrom (sB.heap.objs.size + 1) scope.names (cloFrom X.env.cells scope.names []) := ⟨_, rfl⟩
  rw [← hcl] at IC
  have pg := hg sB HB sB.heap.objs.size cl fp
  have pk := hk sB HB sB.heap.objs.size cl fp
  have pv := hv sB HB sB.heap.objs.size cl fp
  have stC : tn 0 (pushCells (sB.heap.push { cls := .type "dict", data := .dict #[] }) scope.names) := T.keep _ _ _ stB fun _ _ _ e => pushCells_keeps _ _ _ _ (Heap.get?_push_of_some _ e)
  have emptyB : ∀ b ∈ fp, HB b = none := fun b hb => (okB b hb).1.1
  have stat : ∀ {σ' : L2.St} {H' : Hp} {s' : Shared}, Inv (blkX X scope sB HB sB.heap.objs.size cl fp) [] σ' H' s' → (∀ b ∈ fp, H' b = none) → ∀ b ∈ fp, FpOk (blkX X scope sB HB sB.heap.objs.size cl fp) [] H' b := fun {_ H' _} I' hn b hb =>
    ⟨hn b hb, (I'.ok.exf b hb).1, I'.ok.exfs b hb, .inl hb, fun x c e => (I'.ok.exf b hb).2 x c e, fun p hp => nomatch hp⟩
  rw [← hcl]
  obtain ⟨Rr, hRr⟩ : ∃ Rr : Result → Shared → Prop, Rr = compPost (model X.prog X.w) X.A X.xe use Qf (.ref B) sB.heap.objs.size := ⟨_, rfl⟩
  have loop : ∀ sC : Shared, Inv (blkX X scope sB HB sB.heap.objs.size cl fp) [] (wipe σ (own.map (·.2))) HB sC → tn 0 sC.heap → codeAny (model X.prog X.w) X.A (.compLoop (.DictComp kx vx [⟨tg, iter, [], 0⟩] scope pos) 0 (.ref it) (.ref B) (compEnvC scope cl sB.heap.objs.size X.env)) Rr sC := by
    intro sC IC stC
    refine compLoop_anyD (fun n s' => ∃ i H', Inv (blkX X scope sB HB sB.heap.objs.size cl fp) [] (wipe σ (own.map (·.2))) H' s' ∧ tn i s'.heap ∧ (∀ b ∈ fp, H' b = none) ∧ W i n H') ?_ m0 ⟨0, HB, IC, stC, emptyB, w0⟩
    rintro n sD ⟨i, HD, ID, stD, nD, wD⟩
    rcases turn i n HD wD with ⟨stop, qq⟩ | ⟨go, Nx, hNx, step⟩
    · refine thnF (T.done (blkX X scope sB HB sB.heap.objs.size cl fp) rfl rfl rfl hc i [] sD _ HD (fun _ _ => False) ID (stat ID nD) stD stop) fun r sE ⟨hr, IE⟩ => ?_
      subst hr
      have back : Inv X pins σ HD sE := IB.call' (ch := fp) IE.os IE.base IE.hok IE.bare fun b hb => ⟨(okB b hb).1.2.2.2.1, (okB b hb).1.2.1, (okB b hb).1.2.2.2.2.1, (okB b hb).1.2.2.2.2.2⟩
      obtain ⟨m, hn, _⟩ := IE.loc
      rw [hRr]
      exact after B _ sE m HD back qq hn (IB.fpOk (Nat.le_refl sB.heap.objs.size) IE.free)
    · refine thnF (T.item (blkX X scope sB HB sB.heap.objs.size cl fp) rfl rfl rfl hc i [] sD _ HD (fun _ _ => False) ID (stat ID nD) stD go) fun r sE ⟨u, hr, hE⟩ => ?_
      subst hr
      refine thnF hE fun _ sF ⟨x, HF, IF, rF, yF, stF, nF⟩ => ?_
      have IP := IF.pinned (stat IF nF) (T.obj _ _ stF)
      refine thnF (pg.run _ sF _ HF x u _ IP rF (step x HF yF)) fun _ sG ⟨σG, HG, IG, hwG, qG⟩ => ?_
      simp only [List.forIn_nil]
      refine wpAny_pure ?_
      simp only [if_true]
      refine thnF (pk.run _ sG σG HG _ IG qG) fun kv sH ⟨yk, HH, IH, rH, qH⟩ => ?_
      refine thnF (pv.run _ sH σG HH _ IH qH) fun vv sI ⟨yv, HI, II, rI, tab, ky, q, ek, hq, hBI, room, nx⟩ => ?_
      subst ek
      obtain rfl : kv = Value.ref q := rH
      refine setT_new (X := blkX X scope sB HB sB.heap.objs.size cl fp) hu II hBI room hq rI fun sJ IJ => ?_
      obtain ⟨m', hm, w'⟩ := hNx _ nx
      have pinned : ∀ b ∈ fp, ∀ o, sF.heap.get? b = some o → sJ.heap.get? b = some o ∧ upd HI B (.dT (putK tab ky yv)) b = none := fun b hb o e =>
        let z := IJ.pin (b, o) (List.mem_append_right _ (List.mem_append_right _ (mem_pinsAt hb e)))
        ⟨z.1, z.2.1⟩
      refine ⟨m', hm, i + 1, _, (IJ.unpinned (pins := [])).weak (by rw [← hwG, wipe_length]) (fun j v e => (wipe_some (by rw [hwG]; exact e)).1), T.keep _ _ _ stF fun b hb o e => (pinned b hb o e).1, fun b hb => ?_, w'⟩
      obtain ⟨o, e, _⟩ := T.obj _ _ stF b hb
      exact (pinned b hb o e).2
  have start := loop _ IC stC
  rw [hRr] at start
  exact codeAny_compStart_dict start (T.self X.A 0 _ _ _ stC start)
theorem pe_dcT {kx vx tg iter : Expr} {scope : Scope} {own : List (Str × Nat)} {pos : Pos} {wi : TI} {g : TG} {tk tv : TE} (hc : X.calm = true) (hu : X.A.units < cLine) (hN : X.N.Nodup) (hi : PI X tg iter wi) (ok : BlkOk X.N X.env.scope scope own)
    (hg : ∀ s H C cl fp, PG (blkX X scope s H C cl fp) tg g) (hk : ∀ s H C cl fp, PE (blkX X scope s H C cl fp) kx tk) (hv : ∀ s H C cl fp, PE (blkX X scope s H C cl fp) vx tv) (hs : ∀ x, foldedSetIterable iter X.env x = pure x := by intro _; rfl) :
    PE X (.DictComp kx vx [⟨tg, iter, [], 0⟩] scope pos) (tDcT wi g tk tv (own.map (·.2))) := by
  refine ⟨fun pins s σ H Q I want => ?_⟩
  rw [arm_eval_DictComp]
  refine dcT_core I hc hu hN hi ok hg hk hv hs want fun B C sE m HD back qq hn fr => ⟨m, hn, fun h'' sb => ?_⟩
  obtain ⟨f0, f1, f2, f3, f4, f5⟩ := fr
  exact ⟨.ref B, HD, back.turned (t' := sE.toks) (fun b o hb e => (sb.2 b hb).trans e) f0 f1 f3 f4 f5, rfl, qq⟩
/-- name = such a comprehension -/
theorem ps_setDcT {i : Nat} {y : Str} {py : Pos} {kx vx tg iter : Expr} {scope : Scope} {own : List (Str × Nat)} {pos spos : Pos} {wi : TI} {g : TG} {tk tv : TE} (hy : X.N[i]? = some y) (hyl : X.env.scope.names.lookup y = some .local)
    (hsw : swapsWith (.DictComp kx vx [⟨tg, iter, [], 0⟩] scope pos) (some (.Name y py)) spos.line X.env = pure true) (hc : X.calm = true) (hu : X.A.units < cLine) (hN : X.N.Nodup) (hi : PI X tg iter wi) (ok : BlkOk X.N X.env.scope scope own)
    (hg : ∀ s H C cl fp, PG (blkX X scope s H C cl fp) tg g) (hk : ∀ s H C cl fp, PE (blkX X scope s H C cl fp) kx tk) (hv : ∀ s H C cl fp, PE (blkX X scope s H C cl fp) vx tv) (hs : ∀ x, foldedSetIterable iter X.env x = pure x := by intro _; rfl) :
    PS X (.Assign [.Name y py] (.DictComp kx vx [⟨tg, iter, [], 0⟩] scope pos) spos) (tAsg (tDcT wi g tk tv (own.map (·.2))) (gName i)) := by
  refine ⟨fun pins s σ H D I want => ?_⟩
  rw [exec_Assign_Name_used _ _ _ _ hsw]
  refine wpAny_bind (wpAny_standAt (wpAny_bind ?_))
  show wpAny _ X.A (do let _ ← comprehension (.DictComp kx vx [⟨tg, iter, [], 0⟩] scope pos) scope X.env (firstIterPos [⟨tg, iter, [], 0⟩] pos) newDict false (eval iter X.env) (some (assign (.Name y py) X.env))) _ _ s
  have want : tDcT wi g tk tv (own.map (·.2)) σ H (fun x H1 => gName i x σ H1 D.nx) := want
  refine wpAny_bind (thn (dcT_core (Qf := fun _ s' => SP X pins D .next s') I hc hu hN hi ok hg hk hv hs want fun B C sE m HD back qq hn fr => ?_) fun _ s' hq => wpAny_pure (wpAny_pure hq))
  show wpAny _ _ (assign (.Name y py) X.env (.ref B)) _ _ _
  refine wpAny_assign_Name (store_ok2 (v := V.ref B) back hN hy (.inl hyl) rfl (fun s2 I2 ⟨a, same, ha⟩ => ?_) (.inr hyl))
  obtain ⟨f0, f1, f2, f3, f4, f5⟩ := fr
  have apart : C ≠ a := ha.elim (fun z => by rw [z]; exact f1) fun z e => f4 y a z e.symm
  exact ⟨m, hn.sameBut same apart, fun h3 sb3 => ⟨_, HD, I2.turned (t' := s2.toks) (fun b o hb e => (sb3.2 b hb).trans e) f0 f1 f3 f4 f5, qq⟩⟩
theorem sw_dict {kx vx : Expr} {gs : List Comprehension} {scope : Scope} {pos py : Pos} {y : Str} {l : Nat} {env : Env} (hk : env.scope.kind = .function) (hy : env.scope.names.lookup y = some .local) (hl : (py.line == pos.line) = true)
    (ha : (scope.names.any fun (n, k) => n == y && (k == .local || k == .cell)) = false) : swapsWith (.DictComp kx vx gs scope pos) (some (.Name y py)) l env = pure true := by
  have ky : env.kindOf y = some .local := hy
  have hb : env.blockKind = .function := by unfold Env.blockKind; rw [hk]; rfl
  unfold swapsWith
  simp only [hb, ky, ha, Expr.pos, hl]
  rfl
end
section
variable {X : Cx} {T : List Addr} {Δ : DEnv} {pos : Pos}
def allPut (prs : List (List Key × Dt)) : List (List Key × Dt) := prs.foldl (fun acc p => putD acc p.1 p.2) []
theorem putD_len {κ : Type} [DecidableEq κ] (kds : List (κ × Dt)) (k : κ) (d : Dt) : (putD kds k d).length ≤ kds.length + 1 := by
  unfold putD
  split <;> simp
theorem fold_len (prs : List (List Key × Dt)) : ∀ acc : List (List Key × Dt), (prs.foldl (fun acc p => putD acc p.1 p.2) acc).length ≤ acc.length + prs.length := by
  induction prs with
  | nil => intro acc; exact Nat.le_refl _
  | cons p r ih =>
    intro acc
    have h1 := ih (putD acc p.1 p.2)
    have h2 := putD_len acc p.1 p.2
    rw [List.foldl_cons, List.length_cons]
    omega
theorem dcT_read {scope : Scope} {own : List (Str × Nat)} {kx vx tg iter : Expr} {items : List Dt} {prs : List (List Key × Dt)} (hi : PID X T Δ tg iter items) (hl : prs.length = items.length) (hz : items.length < sizeLine)
    (ht : ∀ (i : Nat) (d : Dt) (q : List Key × Dt), items[i]? = some d → prs[i]? = some q → ∃ js Δ'' kd, (∀ j ∈ js, j ∈ own.map (·.2)) ∧ InBlk X scope (fun X' => GD X' T tg d js (wipeD Δ (own.map (·.2))) Δ'') ∧ InBlk X scope (fun X' => PD X' T Δ'' kx kd) ∧ tkeyOf kd = some q.1 ∧ InBlk X scope (fun X' => PD X' T Δ'' vx q.2))
    (fm : Fm) (L : Lk) (O : List Addr) (σ : L2.St) (H : Hp) (Q : VK) (W : WX) (tk : Takes X W) (s : Sta X.K T fm L O σ H Δ) (q : RK X.K T fm L O σ H Δ Q W (.own (.dt (allPut prs)))) :
    tDcT (canI X tg iter) (canGb X scope tg) (canEb X scope kx) (canEb X scope vx) (own.map (·.2)) σ H Q :=
    hi.run fm L O σ H _ W tk s fun J H1 π g1 s1 ik => by
      intro B hB
      have hB0 : H B = none := g1.back (s1.new_apart hB).2.2.1 hB
      obtain ⟨aO, a0, aT, aL⟩ := s1.new_apart hB
      refine ⟨fun i m H' => m = items.length - i ∧ i ≤ items.length ∧ Gr T H1 H' ∧ Sta X.K T (fm.pin π) L (B :: O) σ H' Δ ∧ OwAt X.K (mask H' (B :: O)) H' B (.dt (allPut (prs.take i))),
        ⟨items.length, by simp, Nat.zero_le _, Gr.new hB, s1.hide hB, [], upd_same, .nil⟩, ?_⟩
      rintro i m H' ⟨rfl, hi, g', s', tab, atB, rel⟩
      by_cases hlt : i < items.length
      · have hsl : i < prs.length := by omega
        obtain ⟨js, Δ'', kd, hj, hgd, hkd, hkey, hvd⟩ := ht i items[i] prs[i] (List.getElem?_eq_getElem hlt) (List.getElem?_eq_getElem hsl)
        refine .inr ⟨ik.go _ _ _ _ i s' hlt, fun H2 => Gr T H1 H2 ∧ Sta X.K T (fm.pin π) L (B :: O) σ H2 Δ ∧ OwAt X.K (mask H2 (B :: O)) H2 B (.dt (allPut (prs.take (i + 1)))),
          fun H2 ⟨g2, s2, h2⟩ => ⟨items.length - (i + 1), by omega, rfl, hlt, g2, s2, h2⟩, fun x H2 hy => ?_⟩
        obtain ⟨g2, t2, rx⟩ := ik.yld _ _ _ _ i x H2 items[i] s' (List.getElem?_eq_getElem hlt) hy
        have s2 := s'.gr g2 t2
        intro z0 z1 C cl fp
        refine (hgd z0 z1 C cl fp).run (fm.pin π) L (B :: O) (wipe σ (own.map (·.2))) H2 x _ (s2.wiped _) rx fun σ2 s3 hsame => ?_
        refine ⟨wipe_same (hsame.len.trans (wipe_length σ _)) hj hsame.at_, ?_⟩
        intro z0 z1 C cl fp
        refine (hkd z0 z1 C cl fp).run (fm.pin π) L (B :: O) σ2 H2 _ _ takes0 s3 fun y H3 g3 s4 rk => ?_
        intro z0 z1 C cl fp
        refine (hvd z0 z1 C cl fp).run (fm.pin π) L (B :: O) σ2 H3 _ _ takes0 s4 fun z H4 g4 s5 rz => ?_
        have s6 := s2.gr (g3.trans g4) s5.tab
        obtain ⟨b, rfl, hb⟩ := (rk.mono (g4.mask s5.tO)).tkey hkey
        have atB4 : H4 B = some (.dT tab) := g4 B _ aT (g3 B _ aT (g2 B _ aT atB))
        have few := fold_len (prs.take i) []
        have hm : mask (upd H4 B (.dT (putK tab prs[i].1 z))) (B :: O) = mask H4 (B :: O) := mask_upd List.mem_cons_self
        refine ⟨tab, prs[i].1, b, rfl, (mask_some hb).1, atB4, ?_, fun a o n ha => ?_, s1.hid_upd hB s6, ?_⟩
        · have e1 := rel.len
          unfold allPut at e1
          rw [List.length_take] at few
          have : ([] : List (List Key × Dt)).length = 0 := rfl
          omega
        · have ne : a ≠ B := fun z => by rw [z, hB] at ha; cases ha
          rw [upd_ne ne]
          exact g4 a o n (g3 a o n (g2 a o n (g' a o n ha)))
        · refine ⟨_, upd_same, ?_⟩
          rw [hm]
          have e : allPut (prs.take (i + 1)) = putD (allPut (prs.take i)) prs[i].1 prs[i].2 := by
            unfold allPut
            rw [List.take_succ_eq_append_getElem hsl, List.foldl_append]
            rfl
          rw [e]
          exact put_rel (rel.mono (((g2.trans g3).trans g4).mask s'.tO)) rz
      · have e : i = items.length := by omega
        subst e
        refine .inl ⟨ik.stop _ _ _ _ s', q B H' hB0 (g1.trans g') s'.unpin ?_⟩
        rw [show prs.take items.length = prs by rw [← hl]; exact List.take_length] at rel
        exact ⟨tab, atB, rel⟩
theorem pr_dcT {scope : Scope} {own : List (Str × Nat)} {kx vx tg iter : Expr} {items : List Dt} {prs : List (List Key × Dt)} (hc : X.calm = true) (hu : X.A.units < cLine) (hN : X.N.Nodup) (ok : BlkOk X.N X.env.scope scope own) (hi : PID X T Δ tg iter items) (hl : prs.length = items.length) (hz : items.length < sizeLine)
    (ht : ∀ (i : Nat) (d : Dt) (q : List Key × Dt), items[i]? = some d → prs[i]? = some q → ∃ js Δ'' kd, (∀ j ∈ js, j ∈ own.map (·.2)) ∧ InBlk X scope (fun X' => GD X' T tg d js (wipeD Δ (own.map (·.2))) Δ'') ∧ InBlk X scope (fun X' => PD X' T Δ'' kx kd) ∧ tkeyOf kd = some q.1 ∧ InBlk X scope (fun X' => PD X' T Δ'' vx q.2))
    (hfs : ∀ x, foldedSetIterable iter X.env x = pure x := by intro _; rfl) : PR X T Δ (.DictComp kx vx [⟨tg, iter, [], 0⟩] scope pos) (.own (.dt (allPut prs))) :=
  .of (pe_dcT (g := canGb X scope tg) (tk := canEb X scope kx) (tv := canEb X scope vx) hc hu hN canI_ok ok (fun s H C cl fp => ⟨fun pins sh σ H v u Q I r h => h s _ C cl fp pins sh u I r⟩) (fun s H C cl fp => ⟨fun pins sh σ H Q I h => h s _ C cl fp pins sh I⟩) (fun s H C cl fp => ⟨fun pins sh σ H Q I h => h s _ C cl fp pins sh I⟩) hfs) fun fm L O σ H Q W tk s q => dcT_read hi hl hz ht fm L O σ H Q W tk s q
theorem psd_setDcT (i : Nat) {y : Str} {py spos : Pos} {P : DE} {scope : Scope} {own : List (Str × Nat)} {kx vx tg iter : Expr} {items : List Dt} {prs : List (List Key × Dt)} (hc : X.calm = true) (hu : X.A.units < cLine) (hN : X.N.Nodup) (ok : BlkOk X.N X.env.scope scope own) (hi : PID X T Δ tg iter items) (hl : prs.length = items.length) (hz : items.length < sizeLine)
    (ht : ∀ (i : Nat) (d : Dt) (q : List Key × Dt), items[i]? = some d → prs[i]? = some q → ∃ js Δ'' kd, (∀ j ∈ js, j ∈ own.map (·.2)) ∧ InBlk X scope (fun X' => GD X' T tg d js (wipeD Δ (own.map (·.2))) Δ'') ∧ InBlk X scope (fun X' => PD X' T Δ'' kx kd) ∧ tkeyOf kd = some q.1 ∧ InBlk X scope (fun X' => PD X' T Δ'' vx q.2))
    (h : ∀ l, P.nx (Δ.set i (some (.own l false (.dt (allPut prs)))))) (hil : i < Δ.length := by exact of_decide_eq_true rfl) (hy : X.N[i]? = some y := by rfl) (hyl : X.env.scope.names.lookup y = some .local := by rfl) (hsw : swapsWith (.DictComp kx vx [⟨tg, iter, [], 0⟩] scope pos) (some (.Name y py)) spos.line X.env = pure true := by exact sw_dict rfl rfl rfl (by decide +kernel))
    (hfs : ∀ x, foldedSetIterable iter X.env x = pure x := by intro _; rfl) : PSD X T Δ (.Assign [.Name y py] (.DictComp kx vx [⟨tg, iter, [], 0⟩] scope pos) spos) P :=
  .of (ps_setDcT (g := canGb X scope tg) (tk := canEb X scope kx) (tv := canEb X scope vx) hy hyl hsw hc hu hN canI_ok ok (fun s H C cl fp => ⟨fun pins sh σ H v u Q I r h => h s _ C cl fp pins sh u I r⟩) (fun s H C cl fp => ⟨fun pins sh σ H Q I h => h s _ C cl fp pins sh I⟩) (fun s H C cl fp => ⟨fun pins sh σ H Q I h => h s _ C cl fp pins sh I⟩) hfs) fun fm L O σ H D W tk s em => dcT_read hi hl hz ht fm L O σ H _ W tk s (fun p H2 hp g s2 ow => em.nx (p :: O) _ H2 _ (h p) (s.own_set hp s2 hil ow))
end
end DL

set_option Elab.async false
set_option linter.all false
set_option maxRecDepth 100000
set_option maxHeartbeats 2000000
/-! LM3: tables of weights, piles read, as functions. -/
namespace LM
open PySem PySem.Spec L2 DL
abbrev Arw := Int × Nat × Int
def akey (a : Arw) : List Key := [.inl a.1, .inr ⟨[a.2.1].toArray⟩, .inl a.2.2]
def adt (a : Arw) : Dt := .tup [.int a.1, .str [a.2.1], .int a.2.2]
theorem adt_key (a : Arw) : tkeyOf (adt a) = some (akey a) := rfl
theorem akey_inj {a b : Arw} (h : akey a = akey b) : a = b := by
  obtain ⟨a1, a2, a3⟩ := a
  obtain ⟨b1, b2, b3⟩ := b
  unfold akey at h
  simp only [List.cons.injEq, Sum.inl.injEq, Sum.inr.injEq, and_true] at h
  obtain ⟨h1, h2, h3⟩ := h
  subst h1; subst h3
  injection h2 with h2
  have h4 : [a2] = [b2] := by simpa using congrArg Array.toList h2
  injection h4 with h5
  rw [h5]
section
variable {κ : Type} [DecidableEq κ] {α : Type}
def lkG (W : List (κ × α)) (k : κ) : Option α := (W.find? fun p => decide (p.1 = k)).map (·.2)
def putG (W : List (κ × α)) (k : κ) (w : α) : List (κ × α) :=
  if (W.any fun p => decide (p.1 = k)) = true then W.map (fun p => if p.1 = k then (p.1, w) else p) else W ++ [(k, w)]
theorem lkG_nil {k : κ} : lkG ([] : List (κ × α)) k = none := rfl
theorem lkG_pos {p : κ × α} {r : List (κ × α)} {k : κ} (e : p.1 = k) : lkG (p :: r) k = some p.2 := by simp [lkG, List.find?_cons, e]
theorem lkG_neg {p : κ × α} {r : List (κ × α)} {k : κ} (e : ¬ p.1 = k) : lkG (p :: r) k = lkG r k := by simp [lkG, List.find?_cons, e]
variable {β : Type} [DecidableEq β]
/-- a table in data -/
def tabD (f : κ → β) (v : α → Dt) (W : List (κ × α)) : List (β × Dt) := W.map fun p => (f p.1, v p.2)
theorem valD_tab {f : κ → β} {v : α → Dt} (hf : ∀ a b, f a = f b → a = b) (k : κ) : ∀ W : List (κ × α), valD (tabD f v W) (f k) = (lkG W k).map v
  | [] => rfl
  | p :: r => by
    show valD ((f p.1, v p.2) :: tabD f v r) (f k) = _
    by_cases e : p.1 = k
    · rw [valD_pos (p := (f p.1, v p.2)) (by rw [e]), lkG_pos e]
      rfl
    · rw [valD_neg (p := (f p.1, v p.2)) (fun z => e (hf _ _ z)), lkG_neg e]
      exact valD_tab hf k r
theorem any_tab {f : κ → β} {v : α → Dt} (hf : ∀ a b, f a = f b → a = b) (k : κ) (W : List (κ × α)) : ((tabD f v W).any fun q => decide (q.1 = f k)) = (W.any fun p => decide (p.1 = k)) := by
  unfold tabD
  rw [List.any_map]
  congr 1
  funext p
  exact decide_eq_decide.mpr ⟨fun z => hf _ _ z, fun z => by show f p.1 = f k; rw [z]⟩
theorem putD_tab {f : κ → β} {v : α → Dt} (hf : ∀ a b, f a = f b → a = b) (k : κ) (w : α) (W : List (κ × α)) : putD (tabD f v W) (f k) (v w) = tabD f v (putG W k w) := by
  unfold putD putG
  rw [any_tab hf]
  split
  · unfold tabD
    rw [List.map_map, List.map_map]
    refine List.map_congr_left fun p _ => ?_
    show (if f p.1 = f k then (f p.1, v w) else (f p.1, v p.2)) = (f (if p.1 = k then (p.1, w) else p).1, v (if p.1 = k then (p.1, w) else p).2)
    by_cases e : p.1 = k
    · rw [if_pos e, if_pos (by rw [e])]
    · rw [if_neg e, if_neg fun z => e (hf _ _ z)]
  · unfold tabD
    rw [List.map_append]
    rfl
theorem tab_keys {f : κ → β} {v : α → Dt} (W : List (κ × α)) : (tabD f v W).map (·.1) = W.map fun p => f p.1 := by unfold tabD; rw [List.map_map]; rfl
theorem tab_vals {f : κ → β} {v : α → Dt} (W : List (κ × α)) : (tabD f v W).map (·.2) = W.map fun p => v p.2 := by unfold tabD; rw [List.map_map]; rfl
theorem tab_len {f : κ → β} {v : α → Dt} (W : List (κ × α)) : (tabD f v W).length = W.length := by unfold tabD; rw [List.length_map]
theorem lkG_any (k : κ) : ∀ W : List (κ × α), (W.any fun p => decide (p.1 = k)) = (lkG W k).isSome
  | [] => rfl
  | p :: r => by
    rw [List.any_cons]
    by_cases e : p.1 = k
    · simp only [lkG_pos e, decide_eq_true e, Bool.true_or, Option.isSome_some]
    · rw [lkG_neg e, decide_eq_false e, Bool.false_or]; exact lkG_any k r
theorem lkG_put (W : List (κ × α)) (k j : κ) (y : α) : lkG (putG W k y) j = if j = k then some y else lkG W j := by
  unfold putG
  by_cases h : (W.any fun p => decide (p.1 = k)) = true
  · rw [if_pos h]
    have key : ∀ W : List (κ × α), lkG (W.map fun p => if p.1 = k then (p.1, y) else p) j = (lkG W j).map fun x => if j = k then y else x := by
      intro W
      induction W with
      | nil => rfl
      | cons p r ih =>
        rw [List.map_cons]
        by_cases h : p.1 = k
        · rw [if_pos h]
          by_cases e : p.1 = j
          · rw [lkG_pos (p := (p.1, y)) e, lkG_pos e, Option.map_some, if_pos (e.symm.trans h)]
          · rw [lkG_neg (p := (p.1, y)) e, lkG_neg e, ih]
        · rw [if_neg h]
          by_cases e : p.1 = j
          · rw [lkG_pos (p := p) e, lkG_pos e, Option.map_some, if_neg (fun z => h (e.trans z))]
          · rw [lkG_neg (p := p) e, lkG_neg e, ih]
    rw [key]
    by_cases e : j = k
    · subst e
      rw [lkG_any] at h
      obtain ⟨x, hx⟩ := Option.isSome_iff_exists.mp h
      rw [hx, if_pos rfl]
      simp
    · rw [if_neg e]
      simp [e]
  · rw [if_neg h]
    have key : ∀ W : List (κ × α), lkG W k = none → lkG (W ++ [(k, y)]) j = if j = k then some y else lkG W j := by
      intro W
      induction W with
      | nil =>
        intro _
        by_cases e : k = j
        · rw [if_pos e.symm]; exact lkG_pos (p := (k, y)) e
        · rw [if_neg (fun z => e z.symm)]; exact lkG_neg (p := (k, y)) e
      | cons p r ih =>
        intro hn
        rw [List.cons_append]
        have hk : ¬ p.1 = k := fun z => by rw [lkG_pos z] at hn; cases hn
        rw [lkG_neg hk] at hn
        by_cases e : p.1 = j
        · rw [lkG_pos e, lkG_pos e, if_neg fun z => hk (e.trans z)]
        · rw [lkG_neg e, lkG_neg e, ih hn]
    refine key W ?_
    rw [lkG_any] at h
    cases q : lkG W k with
    | none => rfl
    | some x => rw [q] at h; exact absurd rfl h
theorem putG_len (W : List (κ × α)) (k : κ) (w : α) : (putG W k w).length ≤ W.length + 1 := by
  unfold putG
  split <;> simp
theorem putG_keys (W : List (κ × α)) (k : κ) (w : α) : (putG W k w).map (·.1) = if (lkG W k).isSome = true then W.map (·.1) else W.map (·.1) ++ [k] := by
  unfold putG
  rw [lkG_any]
  split
  · rw [List.map_map]
    refine List.map_congr_left fun p _ => ?_
    show (if p.1 = k then (p.1, w) else p).1 = p.1
    split <;> rfl
  · rw [List.map_append]; rfl
/-- keep the least -/
def keepG (W : List (κ × Int)) (k : κ) (w : Int) : Bool × List (κ × Int) := match lkG W k with
  | some v => if v ≤ w then (false, W) else (true, putG W k w)
  | none => (true, putG W k w)
theorem keepG_len (W : List (κ × Int)) (k : κ) (w : Int) : (keepG W k w).2.length ≤ W.length + 1 := by
  unfold keepG
  split
  · split
    · exact Nat.le_succ _
    · exact putG_len _ _ _
  · exact putG_len _ _ _
end
/-- the dict of weights, of rooms reached -/
def wkd (W : List (Arw × Int)) : List (List Key × Dt) := tabD akey .int W
def rkd (R : List (Int × Int)) : List (Key × Dt) := tabD Sum.inl .int R
def wD (W : List (Arw × Int)) : Dt := (Ow.dt (wkd W)).d
def rD (R : List (Int × Int)) : Dt := (Ow.dk (rkd R)).d
theorem wD_get (W : List (Arw × Int)) (a : Arw) : dGet (wD W) (adt a) = some ((lkG W a).map .int) := by
  show (tkeyOf (adt a)).map (fun k => valD (((wkd W).map (·.1)).zip ((wkd W).map (·.2))) k) = _
  rw [zip_keys, adt_key]
  show some (valD (wkd W) (akey a)) = _
  unfold wkd
  rw [valD_tab fun _ _ => akey_inj]
theorem rD_get (R : List (Int × Int)) (k : Int) : dGet (rD R) (.int k) = some ((lkG R k).map .int) := by
  show (keyOf (.int k)).map (fun k => valD (((rkd R).map (·.1)).zip ((rkd R).map (·.2))) k) = _
  rw [zip_keys]
  show some (valD (rkd R) (Sum.inl k)) = _
  unfold rkd
  rw [valD_tab fun _ _ h => Sum.inl.inj h]
/-- the rooms that further hold, from one room -/
def readRow (W : List (Arw × Int)) (g : Nat) (room c : Int) (n : Nat) (acc : List (Int × Int)) : List (Int × Int) :=
  (List.range n).foldl (fun acc (o : Nat) => match lkG W (room, g, (o : Int)) with | some w => (keepG acc (o : Int) (c + w)).2 | none => acc) acc
def readOn (W : List (Arw × Int)) (n : Nat) (R : List (Int × Int)) (g : Nat) : List (Int × Int) :=
  (R.map (·.1)).foldl (fun acc r => readRow W g r ((lkG R r).getD 0) n acc) []
def readFrom (W : List (Arw × Int)) (n : Nat) (start : Int) (text : List Nat) : List (Int × Int) := text.foldl (fun R g => readOn W n R g) [(start, 0)]
end LM
namespace LM
open PySem PySem.Spec L2 DL
/-- the rooms of a table: each once, below n -/
structure Rooms (n : Nat) (R : List (Int × Int)) : Prop where
  nd : (R.map (·.1)).Nodup
  lt : ∀ k ∈ R.map (·.1), 0 ≤ k ∧ k < (n : Int)
theorem Rooms.nil {n : Nat} : Rooms n [] := ⟨List.nodup_nil, fun _ h => nomatch h⟩
theorem Rooms.put {n : Nat} {R : List (Int × Int)} (h : Rooms n R) {k w : Int} (hk : 0 ≤ k ∧ k < (n : Int)) : Rooms n (putG R k w) := by
  have e := putG_keys R k w
  cases q : (lkG R k).isSome with
  | true =>
    rw [q, if_pos rfl] at e
    exact ⟨by rw [e]; exact h.nd, by rw [e]; exact h.lt⟩
  | false =>
    rw [q, if_neg Bool.false_ne_true] at e
    have hn : k ∉ R.map (·.1) := fun z => by
      obtain ⟨p, hp, hpk⟩ := List.mem_map.mp z
      have : (R.any fun p => decide (p.1 = k)) = true := List.any_eq_true.mpr ⟨p, hp, decide_eq_true hpk⟩
      rw [lkG_any, q] at this
      cases this
    refine ⟨?_, fun j hj => ?_⟩
    · rw [e]
      exact List.nodup_append.mpr ⟨h.nd, by simp, fun a ha b hb => by rw [List.mem_singleton.mp hb]; exact fun z => hn (z ▸ ha)⟩
    · rw [e] at hj
      rcases List.mem_append.mp hj with z | z
      · exact h.lt j z
      · rw [List.mem_singleton.mp z]; exact hk
theorem Rooms.keep {n : Nat} {R : List (Int × Int)} (h : Rooms n R) {k w : Int} (hk : 0 ≤ k ∧ k < (n : Int)) : Rooms n (keepG R k w).2 := by
  unfold keepG
  split
  · split
    · exact h
    · exact h.put hk
  · exact h.put hk
theorem Rooms.len {n : Nat} {R : List (Int × Int)} (h : Rooms n R) : R.length ≤ n := by
  have := List.Nodup.length_le_of_subset (l₂ := (List.range n).map fun (i : Nat) => (i : Int)) h.nd fun k hk => by
    obtain ⟨h1, h2⟩ := h.lt k hk
    exact List.mem_map.mpr ⟨k.toNat, List.mem_range.mpr (by omega), by omega⟩
  simpa using this
theorem readRow_succ (W : List (Arw × Int)) (g : Nat) (room c : Int) (n : Nat) (acc : List (Int × Int)) : readRow W g room c (n + 1) acc = match lkG W (room, g, (n : Int)) with | some w => (keepG (readRow W g room c n acc) (n : Int) (c + w)).2 | none => readRow W g room c n acc := by
  unfold readRow
  rw [List.range_succ, List.foldl_append]
  rfl
theorem readRow_rooms {W : List (Arw × Int)} {g : Nat} {room c : Int} {n m : Nat} {acc : List (Int × Int)} (h : Rooms m acc) (hn : n ≤ m) : Rooms m (readRow W g room c n acc) := by
  induction n with
  | zero => exact h
  | succ n ih =>
    rw [readRow_succ]
    split
    · exact (ih (by omega)).keep ⟨by omega, by omega⟩
    · exact ih (by omega)
/-- further, behind the first j rooms -/
def readUp (W : List (Arw × Int)) (n : Nat) (R : List (Int × Int)) (g : Nat) (j : Nat) : List (Int × Int) := ((R.map (·.1)).take j).foldl (fun acc r => readRow W g r ((lkG R r).getD 0) n acc) []
theorem readUp_succ {W : List (Arw × Int)} {n : Nat} {R : List (Int × Int)} {g j : Nat} {r : Int} (h : (R.map (·.1))[j]? = some r) : readUp W n R g (j + 1) = readRow W g r ((lkG R r).getD 0) n (readUp W n R g j) := by
  unfold readUp
  obtain ⟨hj, e⟩ := List.getElem?_eq_some_iff.mp h
  rw [List.take_succ_eq_append_getElem hj, List.foldl_append, e]
  rfl
theorem readUp_rooms {W : List (Arw × Int)} {n : Nat} {R : List (Int × Int)} {g : Nat} (j : Nat) : Rooms n (readUp W n R g j) := by
  unfold readUp
  generalize (R.map (·.1)).take j = l
  have : ∀ acc, Rooms n acc → Rooms n (l.foldl (fun acc r => readRow W g r ((lkG R r).getD 0) n acc) acc) := by
    induction l with
    | nil => exact fun acc h => h
    | cons a l ih => exact fun acc h => ih _ (readRow_rooms h (Nat.le_refl _))
  exact this [] .nil
theorem readUp_all {W : List (Arw × Int)} {n : Nat} {R : List (Int × Int)} {g : Nat} : readUp W n R g R.length = readOn W n R g := by
  unfold readUp readOn
  rw [List.take_of_length_le (by rw [List.length_map]; exact Nat.le_refl _)]
theorem readOn_rooms {W : List (Arw × Int)} {n : Nat} {R : List (Int × Int)} {g : Nat} : Rooms n (readOn W n R g) := by
  rw [← readUp_all]
  exact readUp_rooms _
theorem lk_of_mem {R : List (Int × Int)} {r : Int} (h : r ∈ R.map (·.1)) : ∃ c, lkG R r = some c := by
  obtain ⟨p, hp, e⟩ := List.mem_map.mp h
  have : (R.any fun p => decide (p.1 = r)) = true := List.any_eq_true.mpr ⟨p, hp, decide_eq_true e⟩
  rw [lkG_any] at this
  exact Option.isSome_iff_exists.mp this
theorem readFrom_rooms {W : List (Arw × Int)} {n : Nat} {start : Int} (hs : 0 ≤ start ∧ start < (n : Int)) (text : List Nat) : Rooms n (readFrom W n start text) := by
  unfold readFrom
  have : ∀ R, Rooms n R → Rooms n (text.foldl (fun R g => readOn W n R g) R) := by
    induction text with
    | nil => exact fun R h => h
    | cons a l ih => exact fun R h => ih _ readOn_rooms
  refine this _ ⟨?_, fun k hk => ?_⟩
  · simp
  · rw [List.mem_singleton.mp hk]; exact hs
theorem readFrom_snoc {W : List (Arw × Int)} {n : Nat} {start : Int} (text : List Nat) (g : Nat) : readFrom W n start (text ++ [g]) = readOn W n (readFrom W n start text) g := by
  unfold readFrom
  rw [List.foldl_append]
  rfl
/-- one rule brought: changed, the weights -/
def bringRow (R : List (Int × Int)) (s : Int) (g : Nat) (st : Bool × List (Arw × Int)) (room : Int) : Bool × List (Arw × Int) :=
  let k := keepG st.2 (s, g, room) ((lkG R room).getD 0 + 1)
  (st.1 || k.1, k.2)
def bringRule (n : Nat) (st : Bool × List (Arw × Int)) (r : Rl) : Bool × List (Arw × Int) :=
  ((readFrom st.2 n r.t r.p).map (·.1)).foldl (bringRow (readFrom st.2 n r.t r.p) r.s r.g) st
def bring (n : Nat) (rules : List Rl) (W : List (Arw × Int)) : Bool × List (Arw × Int) := rules.foldl (bringRule n) (false, W)
end LM
namespace LM
open PySem PySem.Spec L2 DL
/-- the weights behind i passes -/
def itW (n : Nat) (rules : List Rl) (W : List (Arw × Int)) : Nat → List (Arw × Int)
  | 0 => W
  | i + 1 => (bring n rules (itW n rules W i)).2
def ownW (own : List Arw) : List (Arw × Int) := own.foldl (fun W a => putG W a 0) []
theorem ownW_put (own : List Arw) : allPut (own.map fun a => (akey a, Dt.int 0)) = wkd (ownW own) := by
  unfold allPut ownW
  have : ∀ (W : List (Arw × Int)), (own.map fun a => (akey a, Dt.int 0)).foldl (fun acc p => putD acc p.1 p.2) (wkd W) = wkd (own.foldl (fun W a => putG W a 0) W) := by
    induction own with
    | nil => intro W; rfl
    | cons a r ih =>
      intro W
      rw [List.map_cons, List.foldl_cons, List.foldl_cons]
      have e : putD (wkd W) (akey a) (.int 0) = wkd (putG W a 0) := putD_tab (fun _ _ => akey_inj) a 0 W
      show (r.map fun a => (akey a, Dt.int 0)).foldl _ (putD (wkd W) (akey a) (.int 0)) = _
      rw [e]
      exact ih _
  exact this []
end LM
namespace LM
open PySem PySem.Spec L2 DL
/-- the goal's own arrows, the first k -/
def roomAt (n a : Int) : Nat → Int
  | 0 => a
  | i + 1 => n + (i : Int)
def ownAs (n a : Int) (pl : List Nat) (k : Nat) : List Arw := (List.range k).map fun j => (roomAt n a j, pl.getD j 0, n + (j : Int))
theorem ownAs_len (n a : Int) (pl : List Nat) (k : Nat) : (ownAs n a pl k).length = k := by unfold ownAs; simp
theorem ownAs_succ {n a : Int} {pl : List Nat} {i g : Nat} (h : pl[i]? = some g) : ownAs n a pl (i + 1) = ownAs n a pl i ++ [(roomAt n a i, g, n + (i : Int))] := by
  unfold ownAs
  rw [List.range_succ, List.map_append, List.map_singleton, List.getD_eq_getElem?_getD, h]
  rfl
end LM

set_option Elab.async false
set_option linter.all false
set_option maxRecDepth 100000
set_option maxHeartbeats 2000000
/-! DL13: enumerate(text). -/
namespace DL
open PySem PySem.Spec PyProof.Rows L2
/-- a text's signs with their places, each pair new -/
def Ites (x : Str) : It := ⟨fun i _ => i < x.cps.size, fun i H v H' => ∃ p c, v = .ref p ∧ H p = none ∧ x.cps[i]? = some c ∧ H' = upd H p (.tup [.int ((i : Nat) : Int), .str ⟨#[c]⟩]), fun i _ => x.cps.size ≤ i⟩
theorem turn_enumS {P : Program} {w : World} {K : PySem.W.Frag} {elts : List Expr} {kk : Nat} {tpos : Pos} (x : Str) (t : Tok) (e it : Addr) (ty : String) (hty : ty = "str_ascii_iterator" ∨ ty = "str_iterator") :
    Turn P w K (.Tuple elts kk tpos) (Ites x) [e, it] e (fun i h => (∃ old, IsEnum h e it ((i : Nat) : Int) old) ∧ h.IsStrIter it ty x t i ∧ e ≠ it ∧ i ≤ x.cps.size) where
  mem := by simp
  obj := fun i h st b hb => by
    obtain ⟨⟨old, he⟩, ⟨o, ho, _, hd⟩, _⟩ := st
    rcases List.mem_cons.mp hb with z | hb
    · rw [z]; exact ⟨_, he, fun v q => nomatch q⟩
    · rw [List.mem_singleton.mp hb]; exact ⟨o, ho, fun v q => by rw [hd] at q; cases q⟩
  keep := fun i h h' st k => by
    obtain ⟨⟨old, he⟩, ⟨o, ho, r⟩, ne, le⟩ := st
    exact ⟨⟨old, k e (by simp) _ he⟩, ⟨o, k it (by simp) o ho, r⟩, ne, le⟩
  item := by
    intro X hP hw hK hc i pins s σ H E I own st go
    subst hP hw hK
    obtain ⟨⟨old, he⟩, hit, ne, le⟩ := st
    have lte : e < s.heap.objs.size := Heap.lt_size he
    have lti : it < s.heap.objs.size := by obtain ⟨_, q, _⟩ := hit; exact Heap.lt_size q
    have Dr : Draws X.prog X.w X.A.in1 it [it] x.cps.size (SignAt x) (fun i h => h.IsStrIter it ty x t i) := by
      rcases hty with z | z
      · subst z; exact Draws.strAscii (A := X.A.in1) (I.ok.hd hc) it x t
      · subst z; exact Draws.strWide (A := X.A.in1) (I.ok.hd hc) it x t
    refine wpAny_pyNext_enum_itemD Dr he hit go ne (fun z => ne (List.mem_singleton.mp z)) fun u h' tk hu hout hit' hT hsz hk => ?_
    obtain ⟨c, tc, hcc, rfl⟩ := hu
    refine ⟨_, rfl, wpAny_letOwnedTupleGo_enum (s := { s with heap := h', toks := tk + 1 }) hout fun h2 he2 same => ?_⟩
    have atT : h2.get? s.heap.objs.size = some { cls := .type "tuple", data := .seq #[.int i tk, .str ⟨#[c]⟩ tc] } := (same.2 _ (Nat.ne_of_gt lte)).trans hT
    have new : ObjOk X.prog X.w (upd H s.heap.objs.size (.tup [.int ((i : Nat) : Int), .str ⟨#[c]⟩])) h2 s.heap.objs.size (.tup [.int ((i : Nat) : Int), .str ⟨#[c]⟩]) :=
      ⟨by show 2 ≤ sizeLine; decide, [.int i tk, .str ⟨#[c]⟩ tc], .cons ⟨_, rfl⟩ (.cons ⟨_, rfl⟩ .nil), ⟨_, atT, rfl, _, rfl⟩⟩
    have J := I.turnedNew (t' := tk + 1) (ch := [e, it]) (fun b ob hb q => (same.2 b (fun z => hb (by simp [z]))).trans (hk b ob (fun z => hb (by simp [z])) (fun z => hb (by simp [z])) q)) own (Nat.le_refl _) new
    refine ⟨.ref s.heap.objs.size, _, J, rfl, ⟨_, c, rfl, I.hok.fresh (Nat.le_refl _), hcc, rfl⟩, ⟨⟨.str ⟨#[c]⟩ tc, ?_⟩, ?_, ne, go⟩, fun b hb => ?_⟩
    · have q : ((i + 1 : Nat) : Int) = (i : Int) + 1 := by omega
      rw [q]; exact he2
    · obtain ⟨o, ho, r⟩ := hit'
      exact ⟨o, (same.2 it (Ne.symm ne)).trans ho, r⟩
    · have lt : b < s.heap.objs.size := by
        rcases List.mem_cons.mp hb with z | hb
        · rw [z]; exact lte
        · rw [List.mem_singleton.mp hb]; exact lti
      rw [upd_ne (Nat.ne_of_lt lt)]
      exact (own b hb).1
  done := by
    intro X hP hw hK hc i pins s σ H E I own st stop
    subst hP hw hK
    obtain ⟨⟨old, he⟩, hit, ne, le⟩ := st
    have ei : i = x.cps.size := Nat.le_antisymm le stop
    subst ei
    have Dr : Draws X.prog X.w X.A.in1 it [it] x.cps.size (SignAt x) (fun i h => h.IsStrIter it ty x t i) := by
      rcases hty with z | z
      · subst z; exact Draws.strAscii (A := X.A.in1) (I.ok.hd hc) it x t
      · subst z; exact Draws.strWide (A := X.A.in1) (I.ok.hd hc) it x t
    obtain ⟨f0, f1, f2, f3, f4, f5⟩ := own it (by simp)
    exact wpAny_pyNext_enum_endD Dr he hit fun h' eb => ⟨rfl, I.turned (t' := s.toks) (fun b o hb q => eb b o hb q) f0 f1 f3 f4 f5⟩
  self := fun A i s Q E st h => by
    obtain ⟨⟨_, he⟩, _⟩ := st
    exact wpAny_pyIter_enum he h
theorem pi_enumS {X : Cx} {e : Expr} {ta : TA} {p pos tpos : Pos} {elts : List Expr} {kk : Nat} (hg : Gl X "enumerate") (hm : X.mg "enumerate" = none) (ha : PA X [e] ta) (hs : starEach [e] X.env = [(false, eval e X.env)] := by rfl) :
    PI X (.Tuple elts kk tpos) (.Call (.Name "enumerate" p) [e] [] pos) (fun σ H R => ta σ H fun vs H1 => ∃ x, vs = [.str x] ∧ R (Ites x) H1) := by
  refine ⟨fun pins s σ H R I want => ?_⟩
  refine Call_ (ld_blt I hg hm boot_enumerate (PyProof.Rows.callWith_type1 (thn (ha.run pos pins s σ H _ I want) fun us s1 ⟨vs, H1, I1, r1, q1⟩ => ?_) hs rfl))
  obtain ⟨x, rfl, q⟩ := q1
  obtain ⟨u, rfl, rx⟩ := vals1 r1
  obtain ⟨t, rfl⟩ := (show ∃ t, u = Value.str x t from rx)
  refine call_enumerate_str fun h' he hit hsz hk => wpAny_pyIter_enum he ?_
  have hty : strIterType x = "str_ascii_iterator" ∨ strIterType x = "str_iterator" := by
    unfold strIterType
    split
    · exact .inl rfl
    · exact .inr rfl
  refine ⟨s1.heap.objs.size + 1, [s1.heap.objs.size + 1, s1.heap.objs.size], _, Ites x, H1, rfl, I1.kept (t' := s1.toks) hk, turn_enumS x t (s1.heap.objs.size + 1) s1.heap.objs.size (strIterType x) hty, ⟨⟨.none, he⟩, hit, Nat.succ_ne_self _, Nat.zero_le _⟩, fun b hb => ?_, q⟩
  have ge : s1.heap.objs.size ≤ b := by
    rcases List.mem_cons.mp hb with z | hb
    · rw [z]; exact Nat.le_succ _
    · rw [List.mem_singleton.mp hb]; exact Nat.le_refl _
  exact I1.fpOk ge (I1.hok.fresh ge)
section
variable {X : Cx} {T : List Addr} {Δ : DEnv} {a : Expr} {pos p : Pos}
theorem pid_enumS {tpos : Pos} {elts : List Expr} {kk : Nat} {l : List Nat} (hm : X.mg "enumerate" = none) (ha : PD X T Δ a (.str l)) (hg : Gl X "enumerate" := by rfl) (hs : starEach [a] X.env = (false, eval a X.env) :: starEach [] X.env := by rfl) (hs2 : starEach [a] X.env = [(false, eval a X.env)] := by rfl) :
    PID X T Δ (.Tuple elts kk tpos) (.Call (.Name "enumerate" p) [a] [] pos) (l.mapIdx fun i c => .tup [.int ((i : Nat) : Int), .str [c]]) :=
  .of (pi_enumS hg hm canA_ok hs2) fun fm L O σ H R W tk s q => (pad_cons ha pad_nil hs).run fm L O σ H _ W tk s fun vs H1 g1 s1 r1 => by
    obtain ⟨v, rfl, rv⟩ := r1.one
    have ev := rv.str_of
    subst ev
    have sz : (⟨l.toArray⟩ : Str).cps.size = l.length := by simp
    refine ⟨_, rfl, q _ H1 [] g1 s1 ⟨fun O σ H Δ i s hi => ?_, fun O σ H Δ s => ?_, fun O σ H Δ i x H2 d s hd hy => ?_⟩⟩
    · rw [List.length_mapIdx] at hi
      show i < (⟨l.toArray⟩ : Str).cps.size
      rw [sz]; exact hi
    · show (⟨l.toArray⟩ : Str).cps.size ≤ _
      rw [sz, List.length_mapIdx]
      exact Nat.le_refl _
    · obtain ⟨pt, c, rfl, hp, hc, rfl⟩ := hy
      have hc : l[i]? = some c := by simpa using hc
      rw [List.getElem?_mapIdx, hc] at hd
      cases hd
      exact ⟨Gr.new hp, (s.new hp).tab, Rp.new_tup s hp (.cons (.int _) (.cons (.str [c]) .nil))⟩
end
end DL

set_option Elab.async false
set_option linter.all false
set_option maxRecDepth 100000
set_option maxHeartbeats 2000000
/-! DL14: reversed(text). -/
namespace DL
open PySem PySem.Spec PyProof.Rows L2
theorem str_norev : typeLookup (.type "str") "__reversed__" = pure none := by rw [typeLookup_type, builtinLookup_eq_fast]; kernel_rfl
theorem str_get : typeLookup (.type "str") "__getitem__" = pure (some (.builtin "str.__getitem__")) := by rw [typeLookup_type, builtinLookup_eq_fast]; kernel_rfl
/-- reversed(x), the next place i -/
def RevS (h : Heap) (a : Addr) (x : Str) (t : Tok) (i : Int) : Prop := ∃ o, h.get? a = some o ∧ o.cls = .type "reversed" ∧ o.data = .fields #[.str x t, rawInt i]
section
variable {prog : Program} {w : World} {A : Around} {E : Value → Shared → Prop} {s : Shared} {x : Str} {t : Tok}
theorem RevS.ty {a : Addr} {i : Int} (r : RevS s.heap a x t i) : s.TypeIs (.ref a) "reversed" := let ⟨o, ho, hc, _⟩ := r; ⟨o, ho, hc⟩
theorem call_revS {Q : Value → Shared → Prop} (room : (x.length : Int) < 2 ^ 63)
    (h : ∀ tk, Q (.ref s.heap.objs.size) { s with heap := s.heap.push { cls := .type "reversed", data := .fields #[.str x t, rawInt ((x.length : Int) - 1)] }, toks := tk }) : wpAny (model prog w) A (call (.type "reversed") [.str x t]) Q E s := by
  have ty : s.TypeIs (.str x t) "str" := typeIs_str s x t
  have made : codeAny (model prog w) A.in1 (.call (.builtin "reversed.__new__") ⟨[.type "reversed", .str x t], []⟩) (wants (fun obj s₁ => s₁.TypeIs obj "reversed" ∧ Q obj s₁) E) s := by
    refine codeAny_of_tree ?_
    show wpAny _ A.in1.in1 (do checkBuiltinCall "reversed.__new__" ⟨[.type "reversed", .str x t], []⟩; again (.builtin "reversed.__new__" ⟨[.type "reversed", .str x t], []⟩)) _ _ s
    refine wpAny_bind (wpAny_of_eq (PySem.F.newCall_reversed_1 _) (wpAny_pure ⟨plainId_quiet PySem.F.plain_reversed_new _, codeAny_builtin PySem.F.entry_reversed_new ?_⟩))
    rw [Around.under_plainId PySem.F.plain_reversed_new _]
    unfold Builtin.«reversed.__new__»
    refine wpAny_bind (wpAny_of_eq (newClass_reversed _) ?_)
    try dsimp only
    refine wpAny_bind (wpAny_of_eq (a := ()) (by first | rfl | kernel_rfl) ?_)
    try dsimp only
    refine wpAny_bind (wpAny_of_eq (a := ()) (by first | rfl | kernel_rfl) ?_)
    try dsimp only
    refine wpAny_bind (wpAny_specialOf ty str_norev ?_)
    try dsimp only
    refine wpAny_bind ?_
    wp_delta
    refine wpAny_bind (wpAny_isInstance (T := "str") (U := "dict") (b := false) ty PySem.F.sub_str_dict ?_)
    try dsimp only
    try rw [if_neg Bool.false_ne_true]
    try dsimp only
    refine wpAny_bind (wpAny_specialOf ty str_get ?_)
    try dsimp only
    try rw [if_pos (by decide +kernel)]
    refine wpAny_pure ?_
    try dsimp only
    try rw [if_neg (by decide)]
    try dsimp only
    refine wpAny_bind (len_str (by omega) ?_)
    refine wpAny_bind (wpAny_of_eq (a := some ((x.length : Nat) : Int)) rfl ?_)
    try dsimp only
    refine wpAny_bind ?_
    show wpAny _ _ (newObj (.type "reversed") (.fields #[.str x t, rawInt ((x.length : Int) - 1)])) _ _ _
    refine wpAny_newObj_type ?_
    exact wpAny_pure ⟨⟨_, Heap.get?_push_size _ rfl, rfl⟩, h _⟩
  refine callType_codes (Q₁ := fun obj s₁ => s₁.TypeIs obj "reversed" ∧ Q obj s₁) RT.called_rt (PySem.F.typeCall_reversed_1 _) PySem.F.entry_object_init made fun obj s₁ h₁ => ?_
  exact ⟨h₁.1, PySem.F.args_object_init_2 obj _, object_init_meets RT.called_rt.init.lookup RT.called_rt.made (by decide) prog w A.in1 _ s₁ ⟨h₁.1, rfl, h₁.2⟩⟩
theorem next_revS {it : Addr} {i c : Nat} {Q : Option Value → Shared → Prop} (hit : RevS s.heap it x t (i : Int)) (hc : x.cps[i]? = some c) (room : (x.length : Int) < 2 ^ 63)
    (hQ : ∀ h' u tk, RevS h' it x t ((i : Int) - 1) → Heap.SameBut it s.heap h' → Q (some (.str ⟨#[c]⟩ u)) { s with heap := h', toks := tk }) : wpAny (model prog w) A (pyNext (.ref it)) Q E s := by
  obtain ⟨o, ho, hcl, hd⟩ := id hit
  have hi : i < x.length := (Array.getElem?_eq_some_iff.mp hc).1
  have ty : s.TypeIs (.str x t) "str" := typeIs_str s x t
  unfold pyNext
  refine wpAny_bind (wpAny_attempt (wpAny_callSpecial?_slot (name := Str.ofString "__next__") hit.ty RT.slot_rt_next
    (wpAny_call_entry RT.slot_rt_next hit.ty RT.entry_rt_next ?_ (RT.args_rt_next _))))
  unfold Builtin.«reversed.__next__»
  refine wpAny_bind (wpAny_of_eq (a := (Value.ref it, [])) rfl ?_)
  try dsimp only
  refine wpAny_bind (wpAny_field ho hd (x := .str x t) rfl ?_)
  try dsimp only
  refine wpAny_bind (wpAny_field ho hd (x := rawInt (i : Int)) rfl ?_)
  show wpAny _ _ (if (i : Int) < 0 then _ else _) _ _ s
  rw [if_neg (by omega)]
  try dsimp only
  refine wpAny_bind (wpAny_specialOf ty str_get ?_)
  try dsimp only
  try rw [if_neg (by decide)]
  try dsimp only
  refine wpAny_bind (wpAny_mkInt ?_)
  refine wpAny_bind (wpAny_attempt ?_)
  have e : seqIndex? (i : Int) x.length = some i := by
    have := PySem.StrLaws.seqIndex_nonneg (i := (i : Int)) (n := x.length) (by omega) (by omega)
    simpa using this
  refine getItem_str (c := c) (by
    have e1 : decide ((i : Int) < -(2 ^ 63 : Int)) = false := decide_eq_false (by omega)
    have e2 : decide ((i : Int) ≥ 2 ^ 63) = false := decide_eq_false (by omega)
    rw [e1, e2] <;> rfl) (by rw [e]; exact hc) ?_
  try dsimp only
  refine wpAny_bind (wpAny_field (s := { s with toks := s.toks + 1 + 1 }) ho hd (x := rawInt (i : Int)) rfl ?_)
  try dsimp only
  refine wpAny_bind (wpAny_setField (s := { s with toks := s.toks + 1 + 1 }) ho hd (by simp) ?_)
  first
  | refine wpAny_pure ⟨_, rfl, wpAny_pure (hQ _ _ _ ?_ (Heap.SameBut.update ..))⟩
  | refine wpAny_bind (wpAny_pure (wpAny_pure ⟨_, rfl, wpAny_pure (hQ _ _ _ ?_ (Heap.SameBut.update ..))⟩))
  exact ⟨_, Heap.get?_update_self _ ho (Obj.isFreed_of_fields (Obj.data_mapFields hd _)), (Obj.cls_mapFields ..).trans hcl, by
    rw [Obj.data_mapFields hd]; simp⟩
theorem next_revS_end {it : Addr} {Q : Option Value → Shared → Prop} (hh : A.handled = none) (hit : RevS s.heap it x t (-1))
    (hQ : ∀ h', Heap.ExtBut it s.heap h' → Q none { s with heap := h' }) : wpAny (model prog w) A (pyNext (.ref it)) Q E s := by
  obtain ⟨o, ho, hc, hd⟩ := id hit
  unfold pyNext
  refine wpAny_bind (wpAny_attempt (wpAny_callSpecial?_slot (name := Str.ofString "__next__") hit.ty RT.slot_rt_next
    (wpAny_call_entry RT.slot_rt_next hit.ty RT.entry_rt_next ?_ (RT.args_rt_next _))))
  unfold Builtin.«reversed.__next__»
  refine wpAny_bind (wpAny_of_eq (a := (Value.ref it, [])) rfl ?_)
  try dsimp only
  refine wpAny_bind (wpAny_field ho hd (x := .str x t) rfl ?_)
  try dsimp only
  refine wpAny_bind (wpAny_field ho hd (x := rawInt (-1)) rfl ?_)
  show wpAny _ _ (if (-1 : Int) < 0 then _ else _) _ _ s
  rw [if_pos (by decide)]
  try dsimp only
  refine wpAny_bind (wpAny_rule ?_)
  refine wpAny_bind ?_
  wp_delta
  refine wpAny_bind (wpAny_setField ho hd (by simp) ?_)
  have ho2 := Heap.get?_update_self (Obj.mapFields (·.setIfInBounds 1 (rawInt (-1)))) ho (Obj.isFreed_of_fields (Obj.data_mapFields hd _))
  refine wpAny_setField (s := { s with heap := s.heap.update it (Obj.mapFields (·.setIfInBounds 1 (rawInt (-1)))) }) ho2 (Obj.data_mapFields hd _) (by simp) ?_
  try dsimp only
  first
  | show wpAny _ _ (newExc (.type "StopIteration") [] >>= _) _ _ _
  | (refine wpAny_bind ?_; show wpAny _ _ (newExc (.type "StopIteration") [] >>= _) _ _ _)
  | (refine wpAny_bind ?_; wp_delta; show wpAny _ _ (newExc (.type "StopIteration") [] >>= _) _ _ _)
  refine wpAny_bind ?_
  simp only [newExc, newTuple]
  refine wpAny_bind (wpAny_newObj_type ?_ (by size_fits))
  refine wpAny_bind (m := firstArgMember _ _) (wpAny_of_eq (a := Value.none) (by first | rfl | (simp only [firstArgMember]; rfl)) ?_)
  refine wpAny_newObj_type ?_ (by size_fits)
  simp only [raiseNew]
  refine wpAny_bind (wpAny_handled ?_)
  first | rw [show A.in1.handled = none from hh] | rw [hh]
  refine wpAny_bind (wpAny_pure (wpAny_throw ?_))
  refine wpAny_bind (wpAny_isInstance (T := "StopIteration") (b := true) ⟨_, Heap.get?_push_size _ rfl, rfl⟩ isSubtype_stop ?_)
  refine wpAny_pure (hQ _ ?_)
  refine ((?_ : Heap.ExtBut it s.heap _).push _).push _
  exact fun b ob hb e => (Heap.get?_update_other _ _ (Ne.symm hb)).trans ((Heap.get?_update_other _ _ (Ne.symm hb)).trans e)
theorem iter_revS {it : Addr} {i : Int} {Q : Value → Shared → Prop} (hit : RevS s.heap it x t i) (h : Q (.ref it) s) : wpAny (model prog w) A (pyIter (.ref it)) Q E s := by
  refine wpAny_pyIter_slot hit.ty RT.slot_rt_iter (wpAny_call_entry RT.slot_rt_iter hit.ty RT.entry_rt_iter ?_ (RT.args_rt_iter _))
  show wpAny _ _ (ret (.ref it)) _ _ s
  exact wpAny_pure ⟨_, rfl, "reversed", _, hit.ty, RT.slot_rt_next.lookup, h⟩
end
/-- a text's signs, the last first -/
def Itrs (x : Str) : It := ⟨fun i _ => i < x.cps.size, fun i H v H' => H' = H ∧ ∃ c, x.cps[x.cps.size - 1 - i]? = some c ∧ v = .str ⟨#[c]⟩, fun i _ => x.cps.size ≤ i⟩
theorem turn_revS {P : Program} {w : World} {K : PySem.W.Frag} {tg : Expr} (x : Str) (t : Tok) (it : Addr) (room : (x.length : Int) < 2 ^ 63) :
    Turn P w K tg (Itrs x) [it] it (fun i h => i ≤ x.cps.size ∧ RevS h it x t ((x.cps.size : Int) - 1 - ((i : Nat) : Int))) where
  mem := by simp
  obj := fun i h st b hb => by
    rw [List.mem_singleton.mp hb]
    obtain ⟨_, o, e, c, d⟩ := st
    exact ⟨o, e, fun v z => by rw [d] at z; cases z⟩
  keep := fun i h h' st k => by
    obtain ⟨le, o, ho, r⟩ := st
    exact ⟨le, o, k it (by simp) o ho, r⟩
  item := by
    intro X hP hw hK hc i pins s σ H E I hf st hg
    subst hP hw hK
    have lt : i < x.cps.size := hg
    obtain ⟨f0, f1, f2, f3, f4, f5⟩ := hf it (by simp)
    obtain ⟨_, hit⟩ := st
    have e1 : (x.cps.size : Int) - 1 - ((i : Nat) : Int) = ((x.cps.size - 1 - i : Nat) : Int) := by omega
    rw [e1] at hit
    have hx : x.cps[x.cps.size - 1 - i]? = some x.cps[x.cps.size - 1 - i] := Array.getElem?_eq_getElem (by omega)
    refine next_revS hit hx room fun h' u tk st' sb => ?_
    have e2 : ((x.cps.size - 1 - i : Nat) : Int) - 1 = (x.cps.size : Int) - 1 - ((i + 1 : Nat) : Int) := by omega
    rw [e2] at st'
    have I1 : Inv X pins σ H { s with heap := h', toks := tk } := I.turned (t' := tk) (fun b o hb e => (sb.2 b hb).trans e) f0 f1 f3 f4 f5
    obtain ⟨o, e, c, d⟩ := id st'
    exact ⟨_, rfl, go_of (s := { s with heap := h', toks := tk }) e c d (by decide) ⟨.str ⟨#[x.cps[x.cps.size - 1 - i]]⟩, H, I1, ⟨_, rfl⟩, ⟨rfl, _, hx, rfl⟩, ⟨hg, st'⟩, fun b hb => (hf b hb).1⟩⟩
  done := by
    intro X hP hw hK hc i pins s σ H E I hf st hg
    subst hP hw hK
    obtain ⟨f0, f1, f2, f3, f4, f5⟩ := hf it (by simp)
    obtain ⟨hin, hit⟩ := st
    have hge : x.cps.size ≤ i := hg
    have e1 : (x.cps.size : Int) - 1 - ((i : Nat) : Int) = -1 := by omega
    rw [e1] at hit
    exact next_revS_end (I.ok.hd hc) hit fun h' eb => ⟨rfl, I.turned (t' := s.toks) (fun b o hb e => eb b o hb e) f0 f1 f3 f4 f5⟩
  self := fun A i s Q E st h => iter_revS st.2 h
theorem pi_revS {X : Cx} {e tg : Expr} {ta : TA} {p pos : Pos} (hg : Gl X "reversed") (hm : X.mg "reversed" = none) (ha : PA X [e] ta) (hs : starEach [e] X.env = [(false, eval e X.env)] := by rfl) :
    PI X tg (.Call (.Name "reversed" p) [e] [] pos) (fun σ H R => ta σ H fun vs H1 => ∃ x, vs = [.str x] ∧ (x.length : Int) < 2 ^ 63 ∧ R (Itrs x) H1) := by
  refine ⟨fun pins s σ H R I want => ?_⟩
  refine Call_ (ld_blt I hg hm boot_reversed (PyProof.Rows.callWith_type1 (thn (ha.run pos pins s σ H _ I want) fun us s1 ⟨vs, H1, I1, r1, q1⟩ => ?_) hs rfl))
  obtain ⟨x, rfl, room, q⟩ := q1
  obtain ⟨u, rfl, rx⟩ := vals1 r1
  obtain ⟨t, rfl⟩ := (show ∃ t, u = Value.str x t from rx)
  refine call_revS room fun tk => iter_revS (x := x) (t := t) (i := (x.length : Int) - 1) ⟨_, Heap.get?_push_size _ rfl, rfl, rfl⟩ ?_
  refine pi_one (tk := tk) I1 _ (turn_revS x t _ room) ⟨Nat.zero_le _, ?_⟩ q
  have e1 : (x.cps.size : Int) - 1 - ((0 : Nat) : Int) = (x.length : Int) - 1 := by show _ = (x.cps.size : Int) - 1; omega
  rw [e1]
  exact ⟨_, Heap.get?_push_size _ rfl, rfl, rfl⟩
section
variable {X : Cx} {T : List Addr} {Δ : DEnv} {a tg : Expr} {pos p : Pos}
theorem pid_revS {l : List Nat} (hm : X.mg "reversed" = none) (ha : PD X T Δ a (.str l)) (hr : l.length < 2 ^ 63) (hg : Gl X "reversed" := by rfl) (hs : starEach [a] X.env = (false, eval a X.env) :: starEach [] X.env := by rfl) (hs2 : starEach [a] X.env = [(false, eval a X.env)] := by rfl) :
    PID X T Δ tg (.Call (.Name "reversed" p) [a] [] pos) (l.reverse.map fun c => .str [c]) :=
  .of (pi_revS hg hm canA_ok hs2) fun fm L O σ H R W tk s q => (pad_cons ha pad_nil hs).run fm L O σ H _ W tk s fun vs H1 g1 s1 r1 => by
    obtain ⟨v, rfl, rv⟩ := r1.one
    have ev := rv.str_of
    subst ev
    have sz : (⟨l.toArray⟩ : Str).cps.size = l.length := by simp
    refine ⟨_, rfl, by show ((⟨l.toArray⟩ : Str).cps.size : Int) < _; rw [sz]; omega, q _ H1 [] g1 s1 ⟨fun O σ H Δ i s hi => ?_, fun O σ H Δ s => ?_, fun O σ H Δ i x H2 d s hd hy => ?_⟩⟩
    · rw [List.length_map, List.length_reverse] at hi
      show i < (⟨l.toArray⟩ : Str).cps.size
      rw [sz]; exact hi
    · show (⟨l.toArray⟩ : Str).cps.size ≤ _
      rw [sz, List.length_map, List.length_reverse]
      exact Nat.le_refl _
    · obtain ⟨rfl, c, hc, rfl⟩ := hy
      have hi : i < l.length := by
        have := (List.getElem?_eq_some_iff.mp hd).1
        simpa using this
      rw [sz] at hc
      have hc : l[l.length - 1 - i]? = some c := by simpa using hc
      rw [List.getElem?_map, List.getElem?_reverse hi, hc] at hd
      cases hd
      exact ⟨Gr.refl, s.tab, .str [c]⟩
end
end DL

set_option Elab.async false
set_option linter.all false
set_option maxRecDepth 100000
set_option maxHeartbeats 2000000
/-! DL15: <= of tuples of ints; lists' ends; tuple(list). -/
namespace DL
open PySem PySem.Spec PyProof.Rows L2
theorem RpA.ints_of {K : PySem.W.Frag} {F : Hp} : ∀ {ns : List Int} {vs : List V}, RpA K F vs (ns.map Dt.int) → vs = ns.map V.int
  | [], _, h => h.unnil
  | n :: ns, _, h => by
    obtain ⟨v, r, rfl, h1, h2⟩ := h.uncons
    rw [h1.int_of, RpA.ints_of h2]; rfl
def pairLe (a b c d : Int) : Bool := decide (a < c ∨ (a = c ∧ b ≤ d))
section
variable {X : Cx} {T : List Addr}
theorem opd_leT2 {a b c d : Int} : OpD X T (rLeT X.K) (.tup [.int a, .int b]) (.tup [.int c, .int d]) (.val (.bl (pairLe a b c d))) := fun fm L O σ H Δ Q W x y tk s r1 r2 q => by
  cases r1 with
  | tup g hl hi =>
    cases r2 with
    | tup g2 hl2 hi2 =>
      have e1 := RpA.ints_of (ns := [a, b]) ⟨hl, hi⟩
      have e2 := RpA.ints_of (ns := [c, d]) ⟨hl2, hi2⟩
      subst e1; subst e2
      refine ⟨_, _, [a, b], [c, d], rfl, rfl, .of (s.out g), .of (s.out g2), ?_⟩
      have e : (Ob.lexAt (fun j => decide (([a, b] : List Int).getD j 0 = ([c, d] : List Int).getD j 0)) (fun j => decide (([a, b] : List Int).getD j 0 ≤ ([c, d] : List Int).getD j 0)) (decide (([a, b] : List Int).length ≤ ([c, d] : List Int).length)) 0 (min ([a, b] : List Int).length ([c, d] : List Int).length)) = pairLe a b c d := by
        show (if decide (a = c) = true then (if decide (b = d) = true then true else decide (b ≤ d)) else decide (a ≤ c)) = _
        unfold pairLe
        by_cases h1 : a = c
        · subst h1
          rw [if_pos (by simp)]
          by_cases h2 : b = d
          · subst h2; simp
          · rw [if_neg (by simpa using h2)]
            exact decide_eq_decide.mpr ⟨fun z => .inr ⟨rfl, z⟩, fun z => z.elim (fun z => absurd z (Int.lt_irrefl _)) (·.2)⟩
        · rw [if_neg (by simpa using h1)]
          exact decide_eq_decide.mpr ⟨fun z => .inl (by omega), fun z => by omega⟩
      rw [e]
      exact q _ H Gr.refl s (.bl _)
end
section
variable {X : Cx} {T : List Addr} {Δ : DEnv} {e : Expr} {ds : List Dt} {pos p : Pos}
theorem pd_tupOf (hm : X.mg "tuple" = none) (ha : PD X T Δ e (.lst ds)) (hg : Gl X "tuple" := by rfl) (he : starEach [e] X.env = (false, eval e X.env) :: starEach [] X.env := by rfl) : PD X T Δ (.Call (.Name "tuple" p) [e] [] pos) (.tup ds) :=
  pr_callT call_tuple_of (fun fm L O σ H Δ Q W vs tk s ra q => by
    obtain ⟨v, rfl, rv⟩ := ra.one
    cases rv with
    | lst g hl hi => exact ⟨_, _, rfl, .inl ⟨.of (s.out g), fun l hl2 => q _ _ (Gr.new hl2) (s.new hl2) (Rp.new_tup s hl2 ⟨hl, hi⟩)⟩⟩) hm (by decide +kernel) (pad_cons ha pad_nil he) hg (he := he)
end
end DL

set_option Elab.async false
set_option linter.all false
set_option maxRecDepth 100000
set_option maxHeartbeats 2000000
/-! LM4: rows from the pile's end, as functions. -/
namespace LM
open PySem PySem.Spec L2 DL
/-- a row: rooms, the weight and the next room of each -/
abbrev RowP := List (Int × (Int × Int))
def pdt (p : Int × Int) : Dt := .tup [.int p.1, .int p.2]
def pkd (R : RowP) : List (Key × Dt) := tabD Sum.inl pdt R
def pD (R : RowP) : Dt := (Ow.dk (pkd R)).d
theorem pD_get (R : RowP) (k : Int) : dGet (pD R) (.int k) = some ((lkG R k).map pdt) := by
  show (keyOf (.int k)).map (fun k => valD (((pkd R).map (·.1)).zip ((pkd R).map (·.2))) k) = _
  rw [zip_keys]
  show some (valD (pkd R) (Sum.inl k)) = _
  unfold pkd
  rw [valD_tab fun _ _ h => Sum.inl.inj h]
def keepP (R : RowP) (k : Int) (w : Int × Int) : Bool × RowP := match lkG R k with
  | some v => if pairLe v.1 v.2 w.1 w.2 = true then (false, R) else (true, putG R k w)
  | none => (true, putG R k w)
structure RoomsP (n : Nat) (R : RowP) : Prop where
  nd : (R.map (·.1)).Nodup
  lt : ∀ k ∈ R.map (·.1), 0 ≤ k ∧ k < (n : Int)
theorem RoomsP.nil {n : Nat} : RoomsP n [] := ⟨List.nodup_nil, fun _ h => nomatch h⟩
theorem RoomsP.one {n : Nat} {k : Int} {v : Int × Int} (hk : 0 ≤ k ∧ k < (n : Int)) : RoomsP n [(k, v)] := ⟨by simp, fun j hj => by rw [List.mem_singleton.mp hj]; exact hk⟩
theorem RoomsP.put {n : Nat} {R : RowP} (h : RoomsP n R) {k : Int} {w : Int × Int} (hk : 0 ≤ k ∧ k < (n : Int)) : RoomsP n (putG R k w) := by
  have e := putG_keys R k w
  cases q : (lkG R k).isSome with
  | true =>
    rw [q, if_pos rfl] at e
    exact ⟨by rw [e]; exact h.nd, by rw [e]; exact h.lt⟩
  | false =>
    rw [q, if_neg Bool.false_ne_true] at e
    have hn : k ∉ R.map (·.1) := fun z => by
      obtain ⟨p, hp, hpk⟩ := List.mem_map.mp z
      have : (R.any fun p => decide (p.1 = k)) = true := List.any_eq_true.mpr ⟨p, hp, decide_eq_true hpk⟩
      rw [lkG_any, q] at this
      cases this
    refine ⟨?_, fun j hj => ?_⟩
    · rw [e]
      exact List.nodup_append.mpr ⟨h.nd, by simp, fun a ha b hb => by rw [List.mem_singleton.mp hb]; exact fun z => hn (z ▸ ha)⟩
    · rw [e] at hj
      rcases List.mem_append.mp hj with z | z
      · exact h.lt j z
      · rw [List.mem_singleton.mp z]; exact hk
theorem RoomsP.keep {n : Nat} {R : RowP} (h : RoomsP n R) {k : Int} {w : Int × Int} (hk : 0 ≤ k ∧ k < (n : Int)) : RoomsP n (keepP R k w).2 := by
  unfold keepP
  split
  · split
    · exact h
    · exact h.put hk
  · exact h.put hk
theorem RoomsP.len {n : Nat} {R : RowP} (h : RoomsP n R) : R.length ≤ n := by
  have := List.Nodup.length_le_of_subset (l₂ := (List.range n).map fun (i : Nat) => (i : Int)) h.nd fun k hk => by
    obtain ⟨h1, h2⟩ := h.lt k hk
    exact List.mem_map.mpr ⟨k.toNat, List.mem_range.mpr (by omega), by omega⟩
  simpa using this
theorem lkP_of_mem {α : Type} {R : List (Int × α)} {r : Int} (h : r ∈ R.map (·.1)) : ∃ c, lkG R r = some c := by
  obtain ⟨p, hp, e⟩ := List.mem_map.mp h
  have : (R.any fun p => decide (p.1 = r)) = true := List.any_eq_true.mpr ⟨p, hp, decide_eq_true e⟩
  rw [lkG_any] at this
  exact Option.isSome_iff_exists.mp this
/-- the rooms ahead of one room, the first n tried -/
def rowIn (W : List (Arw × Int)) (g : Nat) (other c : Int) (n : Nat) (acc : RowP) : RowP :=
  (List.range n).foldl (fun acc (r : Nat) => match lkG W ((r : Int), g, other) with | some w => (keepP acc (r : Int) (w + c, other)).2 | none => acc) acc
theorem rowIn_succ (W : List (Arw × Int)) (g : Nat) (other c : Int) (n : Nat) (acc : RowP) : rowIn W g other c (n + 1) acc = match lkG W ((n : Int), g, other) with | some w => (keepP (rowIn W g other c n acc) (n : Int) (w + c, other)).2 | none => rowIn W g other c n acc := by
  unfold rowIn
  rw [List.range_succ, List.foldl_append]
  rfl
theorem rowIn_rooms {W : List (Arw × Int)} {g : Nat} {other c : Int} {n m : Nat} {acc : RowP} (h : RoomsP m acc) (hn : n ≤ m) : RoomsP m (rowIn W g other c n acc) := by
  induction n with
  | zero => exact h
  | succ n ih =>
    rw [rowIn_succ]
    split
    · exact (ih (by omega)).keep ⟨by omega, by omega⟩
    · exact ih (by omega)
/-- the row ahead, behind the first j rooms -/
def rowUp (W : List (Arw × Int)) (n : Nat) (R : RowP) (g : Nat) (j : Nat) : RowP := ((R.map (·.1)).take j).foldl (fun acc o => rowIn W g o ((lkG R o).getD (0, 0)).1 n acc) []
def rowAhead (W : List (Arw × Int)) (n : Nat) (R : RowP) (g : Nat) : RowP := (R.map (·.1)).foldl (fun acc o => rowIn W g o ((lkG R o).getD (0, 0)).1 n acc) []
theorem rowUp_succ {W : List (Arw × Int)} {n : Nat} {R : RowP} {g j : Nat} {o : Int} (h : (R.map (·.1))[j]? = some o) : rowUp W n R g (j + 1) = rowIn W g o ((lkG R o).getD (0, 0)).1 n (rowUp W n R g j) := by
  unfold rowUp
  obtain ⟨hj, e⟩ := List.getElem?_eq_some_iff.mp h
  rw [List.take_succ_eq_append_getElem hj, List.foldl_append, e]
  rfl
theorem rowUp_rooms {W : List (Arw × Int)} {n : Nat} {R : RowP} {g : Nat} (j : Nat) : RoomsP n (rowUp W n R g j) := by
  unfold rowUp
  generalize (R.map (·.1)).take j = l
  have : ∀ acc, RoomsP n acc → RoomsP n (l.foldl (fun acc o => rowIn W g o ((lkG R o).getD (0, 0)).1 n acc) acc) := by
    induction l with
    | nil => exact fun acc h => h
    | cons a l ih => exact fun acc h => ih _ (rowIn_rooms h (Nat.le_refl _))
  exact this [] .nil
theorem rowUp_all {W : List (Arw × Int)} {n : Nat} {R : RowP} {g : Nat} : rowUp W n R g R.length = rowAhead W n R g := by
  unfold rowUp rowAhead
  rw [List.take_of_length_le (by rw [List.length_map]; exact Nat.le_refl _)]
theorem rowAhead_rooms {W : List (Arw × Int)} {n : Nat} {R : RowP} {g : Nat} : RoomsP n (rowAhead W n R g) := by
  rw [← rowUp_all]
  exact rowUp_rooms _
/-- the rows from the end, the end's first -/
def rowsUp (W : List (Arw × Int)) (n : Nat) (e : Int) (l : List Nat) : List RowP := l.foldl (fun rs g => rs ++ [rowAhead W n (rs.getLastD []) g]) [[(e, (0, e))]]
def rowsTo (W : List (Arw × Int)) (n : Nat) (e : Int) (text : List Nat) : List RowP := (rowsUp W n e text.reverse).reverse
theorem rowsUp_snoc (W : List (Arw × Int)) (n : Nat) (e : Int) (l : List Nat) (g : Nat) : rowsUp W n e (l ++ [g]) = rowsUp W n e l ++ [rowAhead W n ((rowsUp W n e l).getLastD []) g] := by
  unfold rowsUp
  rw [List.foldl_append]
  rfl
theorem rowsUp_len (W : List (Arw × Int)) (n : Nat) (e : Int) (l : List Nat) : (rowsUp W n e l).length = l.length + 1 := by
  have : ∀ rs : List RowP, (l.foldl (fun rs g => rs ++ [rowAhead W n (rs.getLastD []) g]) rs).length = rs.length + l.length := by
    induction l with
    | nil => intro rs; rfl
    | cons a l ih =>
      intro rs
      rw [List.foldl_cons, ih, List.length_append]
      show rs.length + 1 + l.length = rs.length + (l.length + 1)
      omega
  unfold rowsUp
  rw [this]
  show 1 + _ = _
  omega
theorem dix_last {α : Type} {l : List α} {f : α → Dt} (z : α) (h : l ≠ []) : dIx (.lst (l.map f)) (-1) = some (f (l.getLastD z)) := by
  have hl : 0 < l.length := List.length_pos_iff.mpr h
  show L2.atI (l.map f) (-1) = _
  have e : L2.ixN (l.map f).length (-1) = some (l.length - 1) := by
    unfold L2.ixN
    rw [if_neg (by decide), List.length_map]
    split
    · congr 1
      omega
    · omega
  unfold L2.atI
  rw [e, Option.bind_some, List.getElem?_map, List.getLastD_eq_getLast?, List.getLast?_eq_getElem?]
  rw [List.getElem?_eq_getElem (by omega)]
  rfl
theorem rowsTo_nil (W : List (Arw × Int)) (n : Nat) (e : Int) : rowsTo W n e [] = [[(e, (0, e))]] := rfl
theorem rowsTo_cons (W : List (Arw × Int)) (n : Nat) (e : Int) (g : Nat) (text : List Nat) : rowsTo W n e (g :: text) = rowAhead W n ((rowsTo W n e text).getD 0 []) g :: rowsTo W n e text := by
  unfold rowsTo
  rw [List.reverse_cons, rowsUp_snoc, List.reverse_append, List.reverse_singleton, List.singleton_append]
  congr 2
  generalize rowsUp W n e text.reverse = l
  rw [List.getLastD_eq_getLast?, List.getD_eq_getElem?_getD, ← List.head?_eq_getElem?, List.head?_reverse]
theorem rowsTo_len (W : List (Arw × Int)) (n : Nat) (e : Int) (text : List Nat) : (rowsTo W n e text).length = text.length + 1 := by
  unfold rowsTo
  rw [List.length_reverse, rowsUp_len, List.length_reverse]
theorem rowsTo_get (W : List (Arw × Int)) (n : Nat) (e : Int) : ∀ (text : List Nat) (i : Nat), i < text.length → (rowsTo W n e text).getD i [] = rowAhead W n ((rowsTo W n e text).getD (i + 1) []) (text.getD i 0)
  | [], i, h => absurd h (Nat.not_lt_zero _)
  | g :: text, 0, _ => by rw [rowsTo_cons]; rfl
  | g :: text, i + 1, h => by
    rw [rowsTo_cons]
    exact rowsTo_get W n e text i (Nat.lt_of_succ_lt_succ h)
theorem keepP_lk {R : RowP} {k j : Int} {w v : Int × Int} (h : lkG (keepP R k w).2 j = some v) : v = w ∨ lkG R j = some v := by
  have put : lkG (putG R k w) j = some v → v = w ∨ lkG R j = some v := fun h => by
    rw [lkG_put] at h
    split at h
    · exact .inl (Option.some.inj h).symm
    · exact .inr h
  unfold keepP at h
  split at h
  · split at h
    · exact .inr h
    · exact put h
  · exact put h
theorem rowIn_all {P : Int × Int → Prop} {W : List (Arw × Int)} {g : Nat} {other c : Int} {n : Nat} {acc : RowP} (h : ∀ k v, lkG acc k = some v → P v) (ho : ∀ x, P (x, other)) : ∀ k v, lkG (rowIn W g other c n acc) k = some v → P v := by
  induction n with
  | zero => exact h
  | succ n ih =>
    intro k v hk
    rw [rowIn_succ] at hk
    split at hk
    · rcases keepP_lk hk with z | z
      · rw [z]; exact ho _
      · exact ih k v z
    · exact ih k v hk
theorem rowAhead_next {W : List (Arw × Int)} {n : Nat} {R : RowP} {g : Nat} {k : Int} {v : Int × Int} (h : lkG (rowAhead W n R g) k = some v) : v.2 ∈ R.map (·.1) := by
  have go : ∀ (l : List Int) (acc : RowP), (∀ o ∈ l, o ∈ R.map (·.1)) → (∀ k v, lkG acc k = some v → v.2 ∈ R.map (·.1)) → ∀ k v, lkG (l.foldl (fun acc o => rowIn W g o ((lkG R o).getD (0, 0)).1 n acc) acc) k = some v → v.2 ∈ R.map (·.1) := by
    intro l
    induction l with
    | nil => exact fun acc _ h => h
    | cons a l ih => exact fun acc hl h => ih _ (fun o ho => hl o (List.mem_cons_of_mem _ ho)) (rowIn_all (P := fun v => v.2 ∈ R.map (·.1)) h fun x => hl a List.mem_cons_self)
  exact go _ [] (fun o h => h) (fun k v h => by rw [lkG_nil] at h; cases h) k v h
/-- the rooms of the way, and the way -/
def roomW (rows : List RowP) (start : Int) : Nat → Int
  | 0 => start
  | i + 1 => ((lkG (rows.getD i []) (roomW rows start i)).getD (0, 0)).2
def wayUp (rows : List RowP) (start : Int) (text : List Nat) (k : Nat) : List Arw := (List.range k).map fun j => (roomW rows start j, text.getD j 0, roomW rows start (j + 1))
theorem wayUp_len (rows : List RowP) (start : Int) (text : List Nat) (k : Nat) : (wayUp rows start text k).length = k := by unfold wayUp; simp
theorem wayUp_succ {rows : List RowP} {start : Int} {text : List Nat} {i g : Nat} (h : text[i]? = some g) : wayUp rows start text (i + 1) = wayUp rows start text i ++ [(roomW rows start i, g, roomW rows start (i + 1))] := by
  unfold wayUp
  rw [List.range_succ, List.map_append, List.map_singleton, List.getD_eq_getElem?_getD, h]
  rfl
theorem roomW_in {W : List (Arw × Int)} {n : Nat} {e start : Int} {text : List Nat} (h : (lkG ((rowsTo W n e text).getD 0 []) start).isSome = true) : ∀ i, i ≤ text.length → ∃ c, lkG ((rowsTo W n e text).getD i []) (roomW (rowsTo W n e text) start i) = some c
  | 0, _ => Option.isSome_iff_exists.mp h
  | i + 1, hi => by
    obtain ⟨c, hc⟩ := roomW_in h i (by omega)
    have hg := rowsTo_get W n e text i (by omega)
    show ∃ d, lkG _ ((lkG ((rowsTo W n e text).getD i []) (roomW (rowsTo W n e text) start i)).getD (0, 0)).2 = some d
    rw [hc, Option.getD_some]
    rw [hg] at hc
    exact lkP_of_mem (rowAhead_next hc)
def leastWay (W : List (Arw × Int)) (n : Nat) (start : Int) (text : List Nat) (e : Int) : Option (List Arw) :=
  if (lkG ((rowsTo W n e text).getD 0 []) start).isSome = true then some (wayUp (rowsTo W n e text) start text text.length) else none
end LM
namespace LM
open PySem PySem.Spec L2 DL
/-! the reasons -/
abbrev Rsn := List (Arw × Option (Nat × List Arw))
def rsD : Option (Nat × List Arw) → Dt
  | none => .non
  | some (k, l) => .tup [.int (k : Int), .tup (l.map adt)]
def zkd (Z : Rsn) : List (List Key × Dt) := tabD akey rsD Z
def zD (Z : Rsn) : Dt := (Ow.dt (zkd Z)).d
theorem zD_get (Z : Rsn) (a : Arw) : dGet (zD Z) (adt a) = some ((lkG Z a).map rsD) := by
  show (tkeyOf (adt a)).map (fun k => valD (((zkd Z).map (·.1)).zip ((zkd Z).map (·.2))) k) = _
  rw [zip_keys, adt_key]
  show some (valD (zkd Z) (akey a)) = _
  unfold zkd
  rw [valD_tab fun _ _ => akey_inj]
def ownZ (own : List Arw) : Rsn := own.foldl (fun Z a => putG Z a none) []
theorem ownZ_put (own : List Arw) : allPut (own.map fun a => (akey a, Dt.non)) = zkd (ownZ own) := by
  unfold allPut ownZ
  have : ∀ (Z : Rsn), (own.map fun a => (akey a, Dt.non)).foldl (fun acc p => putD acc p.1 p.2) (zkd Z) = zkd (own.foldl (fun Z a => putG Z a none) Z) := by
    induction own with
    | nil => intro Z; rfl
    | cons a r ih =>
      intro Z
      rw [List.map_cons, List.foldl_cons, List.foldl_cons]
      have e : putD (zkd Z) (akey a) .non = zkd (putG Z a none) := putD_tab (f := akey) (v := rsD) (fun _ _ => akey_inj) a none Z
      show (r.map fun a => (akey a, Dt.non)).foldl _ (putD (zkd Z) (akey a) .non) = _
      rw [e]
      exact ih _
  exact this []
def rsnOf (W : List (Arw × Int)) (n : Nat) (num : Nat) (r : Rl) (R : List (Int × Int)) (Z : Rsn) (room : Int) : Rsn :=
  if (lkG Z (r.s, r.g, room)).isSome = false ∧ (lkG R room).getD 0 + 1 = (lkG W (r.s, r.g, room)).getD 0 then putG Z (r.s, r.g, room) (some (num, (leastWay W n r.t r.p room).getD [])) else Z
theorem rsnOf_len (W : List (Arw × Int)) (n : Nat) (num : Nat) (r : Rl) (R : List (Int × Int)) (Z : Rsn) (room : Int) : (rsnOf W n num r R Z room).length ≤ Z.length + 1 := by
  unfold rsnOf
  split
  · exact putG_len _ _ _
  · exact Nat.le_succ _
def rsnUp (W : List (Arw × Int)) (n : Nat) (num : Nat) (r : Rl) (R : List (Int × Int)) (Z : Rsn) (j : Nat) : Rsn := ((R.map (·.1)).take j).foldl (rsnOf W n num r R) Z
theorem rsnUp_succ {W : List (Arw × Int)} {n num : Nat} {r : Rl} {R : List (Int × Int)} {Z : Rsn} {j : Nat} {o : Int} (h : (R.map (·.1))[j]? = some o) : rsnUp W n num r R Z (j + 1) = rsnOf W n num r R (rsnUp W n num r R Z j) o := by
  unfold rsnUp
  obtain ⟨hj, e⟩ := List.getElem?_eq_some_iff.mp h
  rw [List.take_succ_eq_append_getElem hj, List.foldl_append, e]
  rfl
theorem rsnUp_len (W : List (Arw × Int)) (n num : Nat) (r : Rl) (R : List (Int × Int)) (Z : Rsn) (j : Nat) : (rsnUp W n num r R Z j).length ≤ Z.length + j := by
  induction j with
  | zero => simp [rsnUp]
  | succ j ih =>
    by_cases hj : j < (R.map (·.1)).length
    · rw [rsnUp_succ (List.getElem?_eq_getElem hj)]
      have := rsnOf_len W n num r R (rsnUp W n num r R Z j) (R.map (·.1))[j]
      omega
    · have e : rsnUp W n num r R Z (j + 1) = rsnUp W n num r R Z j := by
        unfold rsnUp
        rw [List.take_of_length_le (by omega), List.take_of_length_le (by omega)]
      rw [e]; omega
def rsnRule (W : List (Arw × Int)) (n : Nat) (Z : Rsn) (num : Nat) (r : Rl) : Rsn := rsnUp W n num r (readFrom W n r.t r.p) Z (readFrom W n r.t r.p).length
/-- the reasons behind the first i rules -/
def rsns (W : List (Arw × Int)) (n : Nat) (rules : List Rl) (Z : Rsn) : Nat → Rsn
  | 0 => Z
  | i + 1 => match rules[i]? with
    | some r => rsnRule W n (rsns W n rules Z i) i r
    | none => rsns W n rules Z i
theorem ownZ_len (own : List Arw) : (ownZ own).length ≤ own.length := by
  unfold ownZ
  have : ∀ Z : Rsn, (own.foldl (fun Z a => putG Z a none) Z).length ≤ Z.length + own.length := by
    induction own with
    | nil => intro Z; exact Nat.le_refl _
    | cons a l ih =>
      intro Z
      rw [List.foldl_cons, List.length_cons]
      have h1 := ih (putG Z a none)
      have h2 := putG_len Z a none
      omega
  simpa using this []
end LM

set_option Elab.async false
set_option linter.all false
set_option maxRecDepth 100000
set_option maxHeartbeats 2000000
/-! LM5: what a reader is made of. -/
namespace LM
open PySem PySem.Spec L2 DL
def manyD : Dt → Bool | .int i => decide (1 ≤ i) && decide (i ≤ 5) | _ => false
def lstB : Dt → Bool | .lst _ => true | _ => false
def rulesD (d : Dt) (many : Int) : Bool := match d with | .lst l => decide (l.length ≤ 12) && l.all (fun x => ruleD x many) | _ => false
def goalD (d : Dt) (many : Int) : Bool := match d with | .tup [a, .str p] => spotD (.tup [a, .str p]) many && decide (p.length ≤ 4) | _ => false
theorem lst_of {d : Dt} (h : lstB d = true) : ∃ l, d = .lst l := by
  cases d with
  | lst l => exact ⟨l, rfl⟩
  | _ => cases h
theorem ty_lst {d : Dt} {n : String} (h : tyD d = some n) : decide (n = "list") = lstB d := by
  cases d <;> first | (cases h; rfl) | cases h
theorem spot_of {d : Dt} {many : Int} (h : spotD d many = true) : ∃ a p, d = .tup [a, .str p] := by
  unfold spotD at h
  split at h
  · rename_i a p
    have := ((Bool.and_eq_true _ _).mp h).2
    cases p with
    | str l => exact ⟨a, l, rfl⟩
    | _ => cases this
  · cases h
theorem goal_no {d : Dt} {many : Int} (h : spotD d many = false) : goalD d many = false := by
  unfold goalD
  split
  · rw [h]; rfl
  · rfl
end LM

set_option Elab.async false
set_option linter.all false
set_option maxRecDepth 100000
set_option maxHeartbeats 2000000
/-! LM6: the weights come to rest. -/
namespace LM
open PySem PySem.Spec L2 DL
/-- a table of weights over the arrows A -/
structure Good (A : List Arw) (W : List (Arw × Int)) : Prop where
  nd : (W.map (·.1)).Nodup
  in_ : ∀ k ∈ W.map (·.1), k ∈ A
  nn : ∀ k v, lkG W k = some v → 0 ≤ v
def sumW (W : List (Arw × Int)) : Nat := (W.map fun p => p.2.toNat).sum
theorem Good.len {A : List Arw} {W : List (Arw × Int)} (h : Good A W) : W.length ≤ A.length := by
  have := List.Nodup.length_le_of_subset h.nd h.in_
  simpa using this
/-- the order that a change goes down -/
def Lt2 (A : List Arw) (W' W : List (Arw × Int)) : Prop := Prod.Lex (· < ·) (· < ·) (A.length - W'.length, sumW W') (A.length - W.length, sumW W)
theorem lk_mem {W : List (Arw × Int)} {k : Arw} (h : lkG W k = none) : k ∉ W.map (·.1) := fun z => by
  obtain ⟨p, hp, e⟩ := List.mem_map.mp z
  have : (W.any fun p => decide (p.1 = k)) = true := List.any_eq_true.mpr ⟨p, hp, decide_eq_true e⟩
  rw [lkG_any, h] at this
  cases this
theorem lk_some {W : List (Arw × Int)} {k : Arw} {v : Int} (h : lkG W k = some v) : k ∈ W.map (·.1) := by
  have : (W.any fun p => decide (p.1 = k)) = true := by rw [lkG_any, h]; rfl
  obtain ⟨p, hp, e⟩ := List.any_eq_true.mp this
  exact List.mem_map.mpr ⟨p, hp, of_decide_eq_true e⟩
theorem sum_put : ∀ {W : List (Arw × Int)} {k : Arw} {v w : Int}, (W.map (·.1)).Nodup → lkG W k = some v → ((W.map fun p => if p.1 = k then (p.1, w) else p).map fun p => p.2.toNat).sum + v.toNat = (W.map fun p => p.2.toNat).sum + w.toNat
  | [], _, _, _, _, h => by cases h
  | p :: r, k, v, w, nd, h => by
    rw [List.map_cons] at nd
    have nd := List.nodup_cons.mp nd
    by_cases e : p.1 = k
    · rw [lkG_pos e] at h
      cases h
      have same : (r.map fun p => if p.1 = k then (p.1, w) else p) = r := by
        have : (r.map fun p => if p.1 = k then (p.1, w) else p) = r.map id := List.map_congr_left fun q hq => if_neg fun z => nd.1 (by rw [e, ← z]; exact List.mem_map.mpr ⟨q, hq, rfl⟩)
        rw [this, List.map_id]
      rw [List.map_cons, if_pos e, same, List.map_cons, List.sum_cons, List.map_cons, List.sum_cons]
      show w.toNat + _ + p.2.toNat = p.2.toNat + _ + w.toNat
      omega
    · rw [lkG_neg e] at h
      have ih := sum_put (w := w) nd.2 h
      rw [List.map_cons, if_neg e, List.map_cons, List.sum_cons, List.map_cons, List.sum_cons]
      omega
theorem keep_good {A : List Arw} {W : List (Arw × Int)} {k : Arw} {w : Int} (h : Good A W) (hk : k ∈ A) (hw : 0 ≤ w) : Good A (keepG W k w).2 ∧ (((keepG W k w).1 = false ∧ (keepG W k w).2 = W) ∨ ((keepG W k w).1 = true ∧ Lt2 A (keepG W k w).2 W)) := by
  have gp : Good A (putG W k w) := by
    refine ⟨?_, fun j hj => ?_, fun j v hv => ?_⟩
    · rw [putG_keys]
      split
      · exact h.nd
      · rename_i q
        have q : lkG W k = none := by cases z : lkG W k with
          | none => rfl
          | some x => rw [z] at q; exact absurd rfl q
        exact List.nodup_append.mpr ⟨h.nd, by simp, fun a ha b hb => by rw [List.mem_singleton.mp hb]; exact fun z => lk_mem q (z ▸ ha)⟩
    · rw [putG_keys] at hj
      split at hj
      · exact h.in_ j hj
      · rcases List.mem_append.mp hj with z | z
        · exact h.in_ j z
        · rw [List.mem_singleton.mp z]; exact hk
    · rw [lkG_put] at hv
      split at hv
      · cases hv; exact hw
      · exact h.nn j v hv
  cases q : lkG W k with
  | none =>
    have e : keepG W k w = (true, putG W k w) := by unfold keepG; rw [q]
    rw [e]
    refine ⟨gp, .inr ⟨rfl, .left _ _ ?_⟩⟩
    have hl : (putG W k w).length = W.length + 1 := by
      have := congrArg List.length (putG_keys W k w)
      rw [q] at this
      simpa using this
    have := gp.len
    show A.length - (putG W k w).length < A.length - W.length
    omega
  | some v =>
    by_cases hv : v ≤ w
    · have e : keepG W k w = (false, W) := by unfold keepG; rw [q]; exact if_pos hv
      rw [e]
      exact ⟨h, .inl ⟨rfl, rfl⟩⟩
    · have e : keepG W k w = (true, putG W k w) := by unfold keepG; rw [q]; exact if_neg hv
      rw [e]
      refine ⟨gp, .inr ⟨rfl, ?_⟩⟩
      have hl : (putG W k w).length = W.length := by
        have := congrArg List.length (putG_keys W k w)
        rw [q] at this
        simpa using this
      have hs : sumW (putG W k w) + v.toNat = sumW W + w.toNat := by
        have hany : (W.any fun p => decide (p.1 = k)) = true := by rw [lkG_any, q]; rfl
        unfold putG
        rw [if_pos hany]
        exact sum_put h.nd q
      have := h.nn k v q
      show Prod.Lex _ _ (A.length - (putG W k w).length, _) _
      rw [hl]
      refine .right _ ?_
      show sumW (putG W k w) < sumW W
      omega
theorem Lt2.trans {A : List Arw} {a b c : List (Arw × Int)} (h1 : Lt2 A a b) (h2 : Lt2 A b c) : Lt2 A a c := by
  unfold Lt2 at *
  rw [Prod.lex_def] at *
  simp only at *
  omega
/-- what a pass keeps: changed says whether it went down -/
def Went (A : List Arw) (W0 : List (Arw × Int)) (st : Bool × List (Arw × Int)) : Prop := Good A st.2 ∧ ((st.1 = false ∧ st.2 = W0) ∨ (st.1 = true ∧ Lt2 A st.2 W0))
/-- rooms' weights are never below nought -/
def NN (R : List (Int × Int)) : Prop := ∀ k v, lkG R k = some v → 0 ≤ v
theorem NN.keep {R : List (Int × Int)} (h : NN R) {k w : Int} (hw : 0 ≤ w) : NN (keepG R k w).2 := by
  have hp : NN (putG R k w) := fun j v hv => by
    rw [lkG_put] at hv
    split at hv
    · cases hv; exact hw
    · exact h j v hv
  unfold keepG
  split
  · split
    · exact h
    · exact hp
  · exact hp
theorem readRow_nn {W : List (Arw × Int)} (hW : ∀ k v, lkG W k = some v → 0 ≤ v) {g : Nat} {room c : Int} (hc : 0 ≤ c) {n : Nat} {acc : List (Int × Int)} (h : NN acc) : NN (readRow W g room c n acc) := by
  induction n with
  | zero => exact h
  | succ n ih =>
    rw [readRow_succ]
    split
    · rename_i w hw
      exact ih.keep (by have := hW _ _ hw; omega)
    · exact ih
theorem getD_nn {R : List (Int × Int)} (h : NN R) (r : Int) : 0 ≤ (lkG R r).getD 0 := by
  cases q : lkG R r with
  | none => exact Int.le_refl _
  | some v => exact h r v q
theorem readOn_nn {W : List (Arw × Int)} (hW : ∀ k v, lkG W k = some v → 0 ≤ v) {n : Nat} {R : List (Int × Int)} (h : NN R) (g : Nat) : NN (readOn W n R g) := by
  unfold readOn
  have : ∀ (l : List Int) (acc : List (Int × Int)), NN acc → NN (l.foldl (fun acc r => readRow W g r ((lkG R r).getD 0) n acc) acc) := by
    intro l
    induction l with
    | nil => exact fun acc h => h
    | cons a l ih => exact fun acc ha => ih _ (readRow_nn hW (getD_nn h a) ha)
  exact this _ [] fun k v h => by rw [lkG_nil] at h; cases h
theorem readFrom_nn {W : List (Arw × Int)} (hW : ∀ k v, lkG W k = some v → 0 ≤ v) {n : Nat} {start : Int} (text : List Nat) : NN (readFrom W n start text) := by
  unfold readFrom
  have : ∀ R, NN R → NN (text.foldl (fun R g => readOn W n R g) R) := by
    induction text with
    | nil => exact fun R h => h
    | cons a l ih => exact fun R h => ih _ (readOn_nn hW h a)
  refine this _ fun k v h => ?_
  by_cases e : start = k
  · rw [lkG_pos (p := (start, (0 : Int))) e] at h
    cases h; exact Int.le_refl _
  · rw [lkG_neg (p := (start, (0 : Int))) e] at h
    cases h
theorem rule_went {A : List Arw} {n : Nat} {r : Rl} (ht : 0 ≤ r.t ∧ r.t < (n : Int)) (hA : ∀ room : Int, 0 ≤ room → room < (n : Int) → (r.s, r.g, room) ∈ A) {W0 : List (Arw × Int)} {st : Bool × List (Arw × Int)} (h : Went A W0 st) : Went A W0 (bringRule n st r) := by
  unfold bringRule
  have hr := readFrom_rooms (W := st.2) ht r.p
  have hn := readFrom_nn (W := st.2) h.1.nn (n := n) (start := r.t) r.p
  generalize readFrom st.2 n r.t r.p = R at hr hn ⊢
  have : ∀ (l : List Int) (s2 : Bool × List (Arw × Int)), (∀ k ∈ l, 0 ≤ k ∧ k < (n : Int)) → Went A W0 s2 → Went A W0 (l.foldl (bringRow R r.s r.g) s2) := by
    intro l
    induction l with
    | nil => exact fun s2 _ h => h
    | cons a l ih =>
      intro s2 hl h2
      refine ih _ (fun k hk => hl k (List.mem_cons_of_mem _ hk)) ?_
      have ha := hl a List.mem_cons_self
      obtain ⟨g1, g2⟩ := keep_good (w := (lkG R a).getD 0 + 1) h2.1 (hA a ha.1 ha.2) (by have := getD_nn hn a; omega)
      refine ⟨g1, ?_⟩
      show ((s2.1 || (keepG s2.2 (r.s, r.g, a) ((lkG R a).getD 0 + 1)).1) = false ∧ (keepG s2.2 (r.s, r.g, a) ((lkG R a).getD 0 + 1)).2 = W0) ∨ ((s2.1 || (keepG s2.2 (r.s, r.g, a) ((lkG R a).getD 0 + 1)).1) = true ∧ Lt2 A (keepG s2.2 (r.s, r.g, a) ((lkG R a).getD 0 + 1)).2 W0)
      rcases g2 with ⟨e1, e2⟩ | ⟨e1, e2⟩
      · rw [e1, e2, Bool.or_false]; exact h2.2
      · rw [e1, Bool.or_true]
        refine .inr ⟨rfl, ?_⟩
        rcases h2.2 with ⟨_, e⟩ | ⟨_, e⟩
        · rw [e] at e2; rw [e]; exact e2
        · exact e2.trans e
  exact this _ st hr.lt h
/-- the arrows that may come -/
def allA (n : Nat) (rules : List Rl) (own : List Arw) : List Arw := own ++ (rules.map fun r => (List.range n).map fun (i : Nat) => (r.s, r.g, (i : Int))).flatten
theorem bring_went {A : List Arw} {n : Nat} {W : List (Arw × Int)} (rules : List Rl) (ht : ∀ r ∈ rules, 0 ≤ r.t ∧ r.t < (n : Int)) (hA : ∀ r ∈ rules, ∀ room : Int, 0 ≤ room → room < (n : Int) → (r.s, r.g, room) ∈ A) (h : Good A W) : Went A W (bring n rules W) := by
  unfold bring
  have : ∀ (l : List Rl) (st : Bool × List (Arw × Int)), (∀ r ∈ l, r ∈ rules) → Went A W st → Went A W (l.foldl (bringRule n) st) := by
    intro l
    induction l with
    | nil => exact fun st _ h => h
    | cons a l ih => exact fun st hl h => ih _ (fun r hr => hl r (List.mem_cons_of_mem _ hr)) (rule_went (ht a (hl a List.mem_cons_self)) (hA a (hl a List.mem_cons_self)) h)
  exact this rules _ (fun r h => h) ⟨h, .inl ⟨rfl, rfl⟩⟩
theorem itW_succ' (n : Nat) (rules : List Rl) (W : List (Arw × Int)) (i : Nat) : itW n rules W (i + 1) = itW n rules (bring n rules W).2 i := by
  induction i with
  | zero => rfl
  | succ i ih =>
    show (bring n rules (itW n rules W (i + 1))).2 = (bring n rules (itW n rules (bring n rules W).2 i)).2
    rw [ih]
theorem rests {A : List Arw} {n : Nat} (rules : List Rl) (ht : ∀ r ∈ rules, 0 ≤ r.t ∧ r.t < (n : Int)) (hA : ∀ r ∈ rules, ∀ room : Int, 0 ≤ room → room < (n : Int) → (r.s, r.g, room) ∈ A) :
    ∀ (W : List (Arw × Int)), Good A W → ∃ m, (∀ i, i ≤ m → Good A (itW n rules W i)) ∧ (∀ i, i < m → (bring n rules (itW n rules W i)).1 = true) ∧ (bring n rules (itW n rules W m)).1 = false := by
  have wf : WellFounded (Lt2 A) := InvImage.wf (fun W : List (Arw × Int) => (A.length - W.length, sumW W)) (Prod.lex Nat.lt_wfRel Nat.lt_wfRel).wf
  intro W
  induction W using wf.induction with
  | _ W ih =>
    intro hg
    obtain ⟨g1, g2⟩ := bring_went rules ht hA hg
    rcases g2 with ⟨e, _⟩ | ⟨e, lt⟩
    · exact ⟨0, fun i hi => by rw [Nat.le_zero.mp hi]; exact hg, fun i hi => absurd hi (Nat.not_lt_zero _), e⟩
    · obtain ⟨m, h1, h2, h3⟩ := ih _ lt g1
      refine ⟨m + 1, fun i hi => ?_, fun i hi => ?_, by rw [itW_succ']; exact h3⟩
      · cases i with
        | zero => exact hg
        | succ i => rw [itW_succ']; exact h1 i (by omega)
      · cases i with
        | zero => exact e
        | succ i => rw [itW_succ']; exact h2 i (by omega)
theorem allA_len (n : Nat) (rules : List Rl) (own : List Arw) : (allA n rules own).length = own.length + rules.length * n := by
  unfold allA
  rw [List.length_append]
  congr 1
  induction rules with
  | nil => simp
  | cons a r ih =>
    rw [List.map_cons, List.flatten_cons, List.length_append, ih, List.length_map, List.length_range, List.length_cons, Nat.succ_mul]
    omega
theorem allA_rule {n : Nat} {rules : List Rl} {own : List Arw} : ∀ r ∈ rules, ∀ room : Int, 0 ≤ room → room < (n : Int) → (r.s, r.g, room) ∈ allA n rules own := fun r hr room h0 h1 => by
  unfold allA
  refine List.mem_append.mpr (.inr (List.mem_flatten.mpr ⟨_, List.mem_map.mpr ⟨r, hr, rfl⟩, List.mem_map.mpr ⟨room.toNat, List.mem_range.mpr (by omega), ?_⟩⟩))
  rw [show ((room.toNat : Nat) : Int) = room by omega]
theorem ownW_good {A : List Arw} : ∀ (own : List Arw), (∀ a ∈ own, a ∈ A) → Good A (ownW own) := by
  intro own h
  have : ∀ (l : List Arw) (W : List (Arw × Int)), (∀ a ∈ l, a ∈ A) → Good A W → Good A (l.foldl (fun W a => putG W a 0) W) := by
    intro l
    induction l with
    | nil => exact fun W _ h => h
    | cons a l ih =>
      intro W hl hg
      refine ih _ (fun x hx => hl x (List.mem_cons_of_mem _ hx)) ⟨?_, fun j hj => ?_, fun j v hv => ?_⟩
      · rw [putG_keys]
        split
        · exact hg.nd
        · rename_i q
          have q : lkG W a = none := by cases z : lkG W a with
            | none => rfl
            | some x => rw [z] at q; exact absurd rfl q
          exact List.nodup_append.mpr ⟨hg.nd, by simp, fun b hb c hc => by rw [List.mem_singleton.mp hc]; exact fun z => lk_mem q (z ▸ hb)⟩
      · rw [putG_keys] at hj
        split at hj
        · exact hg.in_ j hj
        · rcases List.mem_append.mp hj with z | z
          · exact hg.in_ j z
          · rw [List.mem_singleton.mp z]; exact hl a List.mem_cons_self
      · rw [lkG_put] at hv
        split at hv
        · cases hv; exact Int.le_refl _
        · exact hg.nn j v hv
  exact this own [] h ⟨List.nodup_nil, fun _ h => (nomatch h), fun k v h => by rw [lkG_nil] at h; cases h⟩
/-- at rest: every arrow that a rule brings stands, no heavier than the rule says -/
def Closed (n : Nat) (rules : List Rl) (W : List (Arw × Int)) : Prop := ∀ r ∈ rules, ∀ room ∈ (readFrom W n r.t r.p).map (·.1), ∃ x, lkG W (r.s, r.g, room) = some x ∧ x ≤ (lkG (readFrom W n r.t r.p) room).getD 0 + 1
theorem keep_false {W : List (Arw × Int)} {k : Arw} {w : Int} (h : (keepG W k w).1 = false) : (keepG W k w).2 = W ∧ ∃ x, lkG W k = some x ∧ x ≤ w := by
  unfold keepG at *
  cases q : lkG W k with
  | none => rw [q] at h; cases h
  | some v =>
    rw [q] at h
    by_cases hv : v ≤ w
    · refine ⟨?_, v, rfl, hv⟩
      show (if v ≤ w then (false, W) else (true, putG W k w)).2 = W
      rw [if_pos hv]
    · have h : (if v ≤ w then (false, W) else (true, putG W k w)).1 = false := h
      rw [if_neg hv] at h
      cases h
theorem rows_false {R : List (Int × Int)} {s : Int} {g : Nat} : ∀ (l : List Int) (st : Bool × List (Arw × Int)), (l.foldl (bringRow R s g) st).1 = false → st.1 = false ∧ (l.foldl (bringRow R s g) st).2 = st.2 ∧ ∀ room ∈ l, ∃ x, lkG st.2 (s, g, room) = some x ∧ x ≤ (lkG R room).getD 0 + 1
  | [], st, h => ⟨h, rfl, fun _ h => (nomatch h)⟩
  | a :: l, st, h => by
    obtain ⟨h1, h2, h3⟩ := rows_false l (bringRow R s g st a) h
    have h1 : (st.1 || (keepG st.2 (s, g, a) ((lkG R a).getD 0 + 1)).1) = false := h1
    obtain ⟨e1, e2⟩ := (Bool.or_eq_false_iff).mp h1
    obtain ⟨k1, x, k2, k3⟩ := keep_false e2
    have e3 : (bringRow R s g st a).2 = st.2 := k1
    rw [e3] at h2 h3
    refine ⟨e1, h2, fun room hr => ?_⟩
    rcases List.mem_cons.mp hr with z | z
    · rw [z]; exact ⟨x, k2, k3⟩
    · exact h3 room z
theorem bring_closed {n : Nat} {rules : List Rl} {W : List (Arw × Int)} (h : (bring n rules W).1 = false) : (bring n rules W).2 = W ∧ Closed n rules W := by
  have go : ∀ (l : List Rl) (st : Bool × List (Arw × Int)), (l.foldl (bringRule n) st).1 = false → st.1 = false ∧ (l.foldl (bringRule n) st).2 = st.2 ∧ Closed n l st.2 := by
    intro l
    induction l with
    | nil => exact fun st h => ⟨h, rfl, fun _ h => (nomatch h)⟩
    | cons r l ih =>
      intro st h
      obtain ⟨h1, h2, h3⟩ := ih (bringRule n st r) h
      obtain ⟨g1, g2, g3⟩ := rows_false _ st h1
      have e : (bringRule n st r).2 = st.2 := g2
      rw [e] at h2 h3
      refine ⟨g1, h2, fun r' hr' => ?_⟩
      rcases List.mem_cons.mp hr' with z | z
      · rw [z]; exact g3
      · exact h3 r' z
  obtain ⟨_, h2, h3⟩ := go rules (false, W) h
  exact ⟨h2, h3⟩
/-- the weights: what a reader finds -/
theorem weights_rest {n : Nat} {rules : List Rl} {own : List Arw} (ht : ∀ r ∈ rules, 0 ≤ r.t ∧ r.t < (n : Int)) :
    ∃ m, (∀ i, i ≤ m → (itW n rules (ownW own) i).length ≤ own.length + rules.length * n) ∧ (∀ i, i < m → (bring n rules (itW n rules (ownW own) i)).1 = true) ∧ (bring n rules (itW n rules (ownW own) m)).1 = false
      ∧ itW n rules (ownW own) (m + 1) = itW n rules (ownW own) m ∧ Closed n rules (itW n rules (ownW own) (m + 1)) ∧ Good (allA n rules own) (itW n rules (ownW own) (m + 1)) := by
  obtain ⟨m, h1, h2, h3⟩ := rests (A := allA n rules own) rules ht allA_rule (ownW own) (ownW_good own fun a ha => List.mem_append.mpr (.inl ha))
  obtain ⟨e, c⟩ := bring_closed h3
  have e : itW n rules (ownW own) (m + 1) = itW n rules (ownW own) m := e
  refine ⟨m, fun i hi => ?_, h2, h3, e, ?_, ?_⟩
  · rw [← allA_len]; exact (h1 i hi).len
  · rw [e]; exact c
  · rw [e]; exact h1 m (Nat.le_refl _)
end LM

set_option Elab.async false
set_option linter.all false
set_option maxRecDepth 100000
set_option maxHeartbeats 2000000
/-! LM7: what is read from the front is read from the end. -/
namespace LM
open PySem PySem.Spec L2 DL
/-- a walk of arrows that spells the text -/
def Walk (W : List (Arw × Int)) (n : Nat) : Int → List Nat → Int → Prop
  | a, [], b => a = b
  | a, g :: t, b => (0 ≤ a ∧ a < (n : Int)) ∧ ∃ c, (lkG W (a, g, c)).isSome = true ∧ Walk W n c t b
theorem Walk.snoc {W : List (Arw × Int)} {n : Nat} {g : Nat} {c b : Int} (hc : 0 ≤ c ∧ c < (n : Int)) (h : (lkG W (c, g, b)).isSome = true) : ∀ {t : List Nat} {a : Int}, Walk W n a t c → Walk W n a (t ++ [g]) b
  | [], a, e => by
    cases (show a = c from e)
    exact ⟨hc, b, h, rfl⟩
  | x :: t, a, ⟨h0, d, h1, h2⟩ => ⟨h0, d, h1, Walk.snoc hc h h2⟩
theorem keep_keys {R : List (Int × Int)} {j k w : Int} (h : k ∈ (keepG R j w).2.map (·.1)) : k ∈ R.map (·.1) ∨ k = j := by
  have put : k ∈ (putG R j w).map (·.1) → k ∈ R.map (·.1) ∨ k = j := fun h => by
    rw [putG_keys] at h
    split at h
    · exact .inl h
    · rcases List.mem_append.mp h with z | z
      · exact .inl z
      · exact .inr (List.mem_singleton.mp z)
  unfold keepG at h
  split at h
  · split at h
    · exact .inl h
    · exact put h
  · exact put h
theorem row_keys {W : List (Arw × Int)} {g : Nat} {room c k : Int} {n : Nat} {acc : List (Int × Int)} (h : k ∈ (readRow W g room c n acc).map (·.1)) : k ∈ acc.map (·.1) ∨ (lkG W (room, g, k)).isSome = true := by
  induction n with
  | zero => exact .inl h
  | succ n ih =>
    rw [readRow_succ] at h
    split at h
    · rename_i w hw
      rcases keep_keys h with z | z
      · exact ih z
      · rw [z, hw]; exact .inr rfl
    · exact ih h
theorem on_keys {W : List (Arw × Int)} {n : Nat} {R : List (Int × Int)} {g : Nat} {k : Int} (h : k ∈ (readOn W n R g).map (·.1)) : ∃ r ∈ R.map (·.1), (lkG W (r, g, k)).isSome = true := by
  unfold readOn at h
  have go : ∀ (l : List Int) (acc : List (Int × Int)), (∀ r ∈ l, r ∈ R.map (·.1)) → k ∈ (l.foldl (fun acc r => readRow W g r ((lkG R r).getD 0) n acc) acc).map (·.1) → k ∈ acc.map (·.1) ∨ ∃ r ∈ R.map (·.1), (lkG W (r, g, k)).isSome = true := by
    intro l
    induction l with
    | nil => exact fun acc _ h => .inl h
    | cons a l ih =>
      intro acc hl h
      rcases ih _ (fun r hr => hl r (List.mem_cons_of_mem _ hr)) h with z | z
      · rcases row_keys z with y | y
        · exact .inl y
        · exact .inr ⟨a, hl a List.mem_cons_self, y⟩
      · exact .inr z
  rcases go _ [] (fun r h => h) h with z | z
  · cases z
  · exact z
theorem walk_of_read {W : List (Arw × Int)} {n : Nat} {a : Int} (ha : 0 ≤ a ∧ a < (n : Int)) (text : List Nat) : ∀ b ∈ (readFrom W n a text).map (·.1), Walk W n a text b := by
  have go : ∀ l : List Nat, ∀ b ∈ (readFrom W n a l.reverse).map (·.1), Walk W n a l.reverse b := by
    intro l
    induction l with
    | nil => intro b hb; exact (List.mem_singleton.mp hb).symm
    | cons g l ih =>
      intro b hb
      rw [List.reverse_cons, readFrom_snoc] at hb
      rw [List.reverse_cons]
      obtain ⟨r, hr, h⟩ := on_keys hb
      exact Walk.snoc ((readFrom_rooms ha l.reverse).lt r hr) h (ih r hr)
  have := go text.reverse
  rwa [List.reverse_reverse] at this
theorem keepP_has {R : RowP} {k : Int} {w : Int × Int} : k ∈ (keepP R k w).2.map (·.1) := by
  have put : k ∈ (putG R k w).map (·.1) := by
    rw [putG_keys]
    split
    · rename_i q
      obtain ⟨x, hx⟩ := Option.isSome_iff_exists.mp q
      have : (R.any fun p => decide (p.1 = k)) = true := by rw [lkG_any, hx]; rfl
      obtain ⟨p, hp, e⟩ := List.any_eq_true.mp this
      exact List.mem_map.mpr ⟨p, hp, of_decide_eq_true e⟩
    · exact List.mem_append.mpr (.inr (List.mem_singleton.mpr rfl))
  unfold keepP
  split
  · rename_i v q
    split
    · have : (R.any fun p => decide (p.1 = k)) = true := by rw [lkG_any, q]; rfl
      obtain ⟨p, hp, e⟩ := List.any_eq_true.mp this
      exact List.mem_map.mpr ⟨p, hp, of_decide_eq_true e⟩
    · exact put
  · exact put
theorem keepP_up {R : RowP} {k j : Int} {w : Int × Int} (h : j ∈ R.map (·.1)) : j ∈ (keepP R k w).2.map (·.1) := by
  have put : j ∈ (putG R k w).map (·.1) := by
    rw [putG_keys]
    split
    · exact h
    · exact List.mem_append.mpr (.inl h)
  unfold keepP
  split
  · split
    · exact h
    · exact put
  · exact put
theorem rowIn_up {W : List (Arw × Int)} {g : Nat} {other c j : Int} {n : Nat} {acc : RowP} (h : j ∈ acc.map (·.1)) : j ∈ (rowIn W g other c n acc).map (·.1) := by
  induction n with
  | zero => exact h
  | succ n ih =>
    rw [rowIn_succ]
    split
    · exact keepP_up ih
    · exact ih
theorem rowIn_has {W : List (Arw × Int)} {g : Nat} {other c : Int} {n : Nat} {acc : RowP} {i : Nat} (hi : i < n) (h : (lkG W ((i : Int), g, other)).isSome = true) : (i : Int) ∈ (rowIn W g other c n acc).map (·.1) := by
  induction n with
  | zero => exact absurd hi (Nat.not_lt_zero _)
  | succ n ih =>
    rw [rowIn_succ]
    by_cases e : i = n
    · subst e
      obtain ⟨x, hx⟩ := Option.isSome_iff_exists.mp h
      rw [hx]
      exact keepP_has
    · have := ih (by omega)
      split
      · exact keepP_up this
      · exact this
theorem ahead_has {W : List (Arw × Int)} {n : Nat} {R : RowP} {g : Nat} {a o : Int} (ha : 0 ≤ a ∧ a < (n : Int)) (ho : o ∈ R.map (·.1)) (h : (lkG W (a, g, o)).isSome = true) : a ∈ (rowAhead W n R g).map (·.1) := by
  unfold rowAhead
  have up : ∀ (l : List Int) (acc : RowP), a ∈ acc.map (·.1) → a ∈ (l.foldl (fun acc o => rowIn W g o ((lkG R o).getD (0, 0)).1 n acc) acc).map (·.1) := by
    intro l
    induction l with
    | nil => exact fun acc h => h
    | cons b l ih => exact fun acc h => ih _ (rowIn_up h)
  have go : ∀ (l : List Int) (acc : RowP), o ∈ l → a ∈ (l.foldl (fun acc o => rowIn W g o ((lkG R o).getD (0, 0)).1 n acc) acc).map (·.1) := by
    intro l
    induction l with
    | nil => exact fun acc h => (nomatch h)
    | cons b l ih =>
      intro acc hl
      rcases List.mem_cons.mp hl with z | z
      · subst z
        refine up l _ ?_
        have e : a = ((a.toNat : Nat) : Int) := by omega
        rw [e]
        exact rowIn_has (by omega) (by rw [← e]; exact h)
      · exact ih _ z
  exact go _ [] ho
theorem rows_of_walk {W : List (Arw × Int)} {n : Nat} {b : Int} : ∀ {text : List Nat} {a : Int}, Walk W n a text b → a ∈ ((rowsTo W n b text).getD 0 []).map (·.1)
  | [], a, e => by
    cases (show a = b from e)
    exact List.mem_singleton.mpr rfl
  | g :: t, a, ⟨h0, c, h1, h2⟩ => by
    rw [rowsTo_cons]
    exact ahead_has h0 (rows_of_walk h2) h1
/-- a room that is reached has a least way -/
theorem way_of_read {W : List (Arw × Int)} {n : Nat} {a b : Int} {text : List Nat} (ha : 0 ≤ a ∧ a < (n : Int)) (h : b ∈ (readFrom W n a text).map (·.1)) : ∃ l, leastWay W n a text b = some l := by
  obtain ⟨c, hc⟩ := lkP_of_mem (rows_of_walk (walk_of_read ha text b h))
  refine ⟨wayUp (rowsTo W n b text) a text text.length, ?_⟩
  unfold leastWay
  rw [hc]
  rfl
end LM
namespace LM
open PySem PySem.Spec L2 DL
/-- the weight of what may be an arrow -/
def arwOf (W : List (Arw × Int)) (a : Int) (l : List Nat) (b : Int) : Option Int := match l with
  | [g] => lkG W (a, g, b)
  | _ => none
def arrowD (W : List (Arw × Int)) (d : Dt) : Bool := match d with
  | .tup [.int a, .str l, .int b] => (arwOf W a l b).isSome
  | _ => false
theorem valD_none {κ : Type} [DecidableEq κ] {k : κ} : ∀ {W : List (κ × Dt)}, (∀ p ∈ W, p.1 ≠ k) → valD W k = none
  | [], _ => rfl
  | p :: r, h => by rw [valD_neg (h p List.mem_cons_self)]; exact valD_none fun q hq => h q (List.mem_cons_of_mem _ hq)
theorem wD_get3 (W : List (Arw × Int)) (a : Int) (l : List Nat) (b : Int) : dGet (wD W) (.tup [.int a, .str l, .int b]) = some ((arwOf W a l b).map .int) := by
  show (tkeyOf (.tup [.int a, .str l, .int b])).map (fun k => valD (((wkd W).map (·.1)).zip ((wkd W).map (·.2))) k) = _
  rw [zip_keys]
  show some (valD (wkd W) [.inl a, .inr ⟨l.toArray⟩, .inl b]) = _
  have no : (∀ g, l ≠ [g]) → valD (wkd W) [.inl a, .inr ⟨l.toArray⟩, .inl b] = none := fun hl => valD_none fun p hp e => by
    obtain ⟨q, _, rfl⟩ := List.mem_map.mp hp
    have e : akey q.1 = [.inl a, .inr ⟨l.toArray⟩, .inl b] := e
    unfold akey at e
    simp only [List.cons.injEq, Sum.inr.injEq] at e
    have e2 : (⟨[q.1.2.1].toArray⟩ : Str) = ⟨l.toArray⟩ := e.2.1
    injection e2 with e3
    exact hl q.1.2.1 (by simpa using (congrArg Array.toList e3).symm)
  match l, no with
  | [g], _ =>
    show some (valD (wkd W) (akey (a, g, b))) = _
    unfold wkd
    rw [valD_tab fun _ _ => akey_inj]
    rfl
  | [], no => rw [no fun g h => by cases h]; rfl
  | _ :: _ :: _, no => rw [no fun g h => by cases h]; rfl
end LM

set_option Elab.async false
set_option linter.all false
set_option maxRecDepth 100000
set_option maxHeartbeats 2000000
/-! LM8: good machines; what is none. -/
namespace LM
open PySem PySem.Spec L2 DL
def Sgs (l : List Nat) : Prop := ∀ c ∈ l, sgOk c = true
theorem Sgs.ok {l : List Nat} (h : Sgs l) : OkS l := fun c hc => by
  have := of_decide_eq_true ((Bool.and_eq_true _ _).mp (h c hc)).2
  omega
theorem Sgs.all {l : List Nat} (h : Sgs l) : l.all sgOk = true := List.all_eq_true.mpr h
theorem sgn_sg (c : Int) : sgOk (sgn c) = true := by
  have := sgn_lt c
  unfold sgOk
  rw [Bool.and_eq_true]
  exact ⟨decide_eq_true this.1, decide_eq_true (by omega)⟩
theorem sgs_sg3 (c : Int) : Sgs (sg3 c) := fun x hx => by
  unfold sg3 at hx
  simp only [List.mem_cons, List.not_mem_nil, or_false] at hx
  rcases hx with z | z | z <;> (rw [z]; exact sgn_sg _)
theorem sgs_getD {l : List Nat} (h : Sgs l) {i : Nat} (hi : i < l.length) : sgOk (l.getD i 0) = true := by
  rw [List.getD_eq_getElem?_getD, List.getElem?_eq_getElem hi]
  exact h _ (List.getElem_mem hi)
theorem sgs_some5 {l : List Nat} (h : Sgs l) (h3 : l.length = 3) : Sgs (some5 l) := fun x hx => by
  unfold some5 at hx
  simp only [List.mem_cons, List.not_mem_nil, or_false] at hx
  rcases hx with z | z | z | z | z <;> (rw [z]; exact sgs_getD h (by omega))
structure GoodR (many : Int) (r : Rl) : Prop where
  s0 : 0 ≤ r.s
  s1 : r.s < many
  t0 : 0 ≤ r.t
  t1 : r.t < many
  g : sgOk r.g = true
  p : Sgs r.p
  l : r.p.length ≤ 2
theorem GoodR.ok {many : Int} {r : Rl} (h : GoodR many r) : RlOk r := ⟨by have := of_decide_eq_true ((Bool.and_eq_true _ _).mp h.g).2; omega, h.p.ok, h.l⟩
theorem GoodR.d {many : Int} {r : Rl} (h : GoodR many r) : ruleD (rlD r) many = true := by
  show ((stateD (.int r.s) many && (sgOk r.g && stateD (.int r.t) many)) && (r.p.all sgOk && decide (r.p.length ≤ 2))) = true
  have e1 : stateD (.int r.s) many = true := by show (decide _ && decide _) = true; rw [decide_eq_true h.s0, decide_eq_true h.s1]; rfl
  have e2 : stateD (.int r.t) many = true := by show (decide _ && decide _) = true; rw [decide_eq_true h.t0, decide_eq_true h.t1]; rfl
  rw [e1, e2, h.g, h.p.all, decide_eq_true h.l]
  rfl
theorem pl1_sgs {l : List Nat} (h : OkS l) (hl : l.length ≤ 1000) : pl1 (.str l) = true := pl1_str (by omega) h
theorem pl2_rule {r : Rl} (h : RlOk r) : pl2 (rlD r) = true := pl2_of_tup fun d hd => by
  simp only [List.mem_cons, List.not_mem_nil, or_false] at hd
  rcases hd with z | z | z | z <;> rw [z]
  · rfl
  · exact pl1_str (by simp) fun c hc => by rw [List.mem_singleton.mp hc]; exact h.g
  · rfl
  · exact pl1_str (by have := h.l; omega) h.p
theorem lawRl_good {c many : Int} {l : List Nat} (hm : 0 < many) (h : Sgs l) (h3 : l.length = 3) : GoodR many (lawRl c many l) := by
  have h5 := sgs_some5 h h3
  have hl5 : (some5 l).length = 5 := rfl
  refine ⟨Int.emod_nonneg _ (by omega), Int.emod_lt_of_pos _ hm, Int.emod_nonneg _ (by omega), Int.emod_lt_of_pos _ hm, ?_, fun x hx => ?_, lawRl_p c many l⟩
  · have := Int.emod_nonneg (c / 5) (b := 5) (by decide)
    have := Int.emod_lt_of_pos (c / 5) (b := 5) (by decide)
    exact sgs_getD h5 (by omega)
  · obtain ⟨k, _, rfl⟩ := List.mem_map.mp hx
    have := Int.emod_nonneg (c / (1000 + 4000 * (k : Int))) (b := 5) (by decide)
    have := Int.emod_lt_of_pos (c / (1000 + 4000 * (k : Int))) (b := 5) (by decide)
    exact sgs_getD h5 (by omega)
def rlsOf (ns : List Int) (many : Int) (sl : List Nat) (i : Nat) : List Rl := (List.range i).map fun k => lawRl (mixed (cell ns (6 + k)) k) many sl
theorem rlsOf_succ (ns : List Int) (many : Int) (sl : List Nat) (i : Nat) : rlsOf ns many sl (i + 1) = rlsOf ns many sl i ++ [lawRl (mixed (cell ns (6 + i)) i) many sl] := by
  unfold rlsOf
  rw [List.range_succ, List.map_append]
  rfl
theorem rlsOf_good {ns : List Int} {many : Int} {sl : List Nat} {i : Nat} (hm : 0 < many) (h : Sgs sl) (h3 : sl.length = 3) : ∀ r ∈ rlsOf ns many sl i, GoodR many r := fun r hr => by
  obtain ⟨k, _, rfl⟩ := List.mem_map.mp hr
  exact lawRl_good hm h h3
theorem rlsOf_len (ns : List Int) (many : Int) (sl : List Nat) (i : Nat) : (rlsOf ns many sl i).length = i := by unfold rlsOf; simp
theorem pl1_lst (l : List Dt) : pl1 (.lst l) = true := rfl
theorem rules_good {many : Int} {rules : List Rl} (h : ∀ r ∈ rules, GoodR many r) (hl : rules.length ≤ 12) : rulesD (.lst (rules.map rlD)) many = true := by
  show (decide ((rules.map rlD).length ≤ 12) && (rules.map rlD).all fun x => ruleD x many) = true
  rw [List.length_map, decide_eq_true hl, Bool.true_and]
  refine List.all_eq_true.mpr fun d hd => ?_
  obtain ⟨r, hr, rfl⟩ := List.mem_map.mp hd
  exact (h r hr).d
theorem rules_pl2 {many : Int} {rules : List Rl} (h : ∀ r ∈ rules, GoodR many r) : ∀ x ∈ rules.map rlD, pl2 x = true := fun d hd => by
  obtain ⟨r, hr, rfl⟩ := List.mem_map.mp hd
  exact pl2_rule (h r hr).ok
theorem spot_pl2 {a : Int} {pl : List Nat} (h : OkS pl) (hl : pl.length ≤ 1000) : pl2 (.tup [.int a, .str pl]) = true := pl2_of_tup fun d hd => by
  simp only [List.mem_cons, List.not_mem_nil, or_false] at hd
  rcases hd with z | z <;> rw [z]
  · rfl
  · exact pl1_sgs h hl
theorem spot_good {a many : Int} {pl : List Nat} (h0 : 0 ≤ a) (h1 : a < many) (h : Sgs pl) : spotD (.tup [.int a, .str pl]) many = true := by
  show ((decide _ && decide _) && pl.all sgOk) = true
  rw [decide_eq_true h0, decide_eq_true h1, h.all]
  rfl
theorem goal_good {a many : Int} {pl : List Nat} (h0 : 0 ≤ a) (h1 : a < many) (h : Sgs pl) (hl : pl.length ≤ 4) : goalD (.tup [.int a, .str pl]) many = true := by
  show (spotD (.tup [.int a, .str pl]) many && decide (pl.length ≤ 4)) = true
  rw [spot_good h0 h1 h, decide_eq_true hl]
  rfl
theorem many_good {n : Int} (h0 : 0 < n) (h1 : n ≤ 5) : manyD (.int n) = true := by
  show (decide _ && decide _) = true
  rw [decide_eq_true (show 1 ≤ n by omega), decide_eq_true h1]
  rfl
/-! ### what is none -/
def bgL (many a : Int) (pl : List Nat) : List Dt := [.tup [.int many, .str pl], .tup [.int a, .str pl, .str []], .lst [.int a, .str pl], .non, .tup [.int a, .str [97, 98, 99, 100, 101]], .tup [.int a, .str [97, 45]]]
theorem bgL_bad {many a : Int} {pl : List Nat} (h : OkS pl) (hl : pl.length ≤ 1000) : ∀ d ∈ bgL many a pl, pl2 d = true ∧ goalD d many = false := fun d hd => by
  simp only [bgL, List.mem_cons, List.not_mem_nil, or_false] at hd
  rcases hd with z | z | z | z | z | z <;> subst z
  · refine ⟨spot_pl2 h hl, goal_no ?_⟩
    show ((decide _ && decide (many < many)) && _) = false
    rw [decide_eq_false (Int.lt_irrefl many), Bool.and_false, Bool.false_and]
  · refine ⟨pl2_of_tup fun d hd => ?_, rfl⟩
    simp only [List.mem_cons, List.not_mem_nil, or_false] at hd
    rcases hd with z | z | z <;> rw [z]
    · rfl
    · exact pl1_sgs h hl
    · rfl
  · exact ⟨rfl, rfl⟩
  · exact ⟨rfl, rfl⟩
  · refine ⟨by rfl, ?_⟩
    show (_ && false) = false
    exact Bool.and_false _
  · refine ⟨by rfl, goal_no ?_⟩
    show (_ && false) = false
    exact Bool.and_false _
def bmL (m : Int) : List Dt := [.int 0, .int 6, .int (-1), .bl true, .non, .str [50], .int (6 + m / 8 % 10 ^ (20 : Int).toNat), .lst [.int 2]]
theorem bmL_bad (m : Int) : ∀ d ∈ bmL m, pl1 d = true ∧ manyD d = false := fun d hd => by
  simp only [bmL, List.mem_cons, List.not_mem_nil, or_false] at hd
  rcases hd with z | z | z | z | z | z | z | z <;> subst z
  · exact ⟨rfl, rfl⟩
  · exact ⟨rfl, rfl⟩
  · exact ⟨rfl, rfl⟩
  · exact ⟨rfl, rfl⟩
  · exact ⟨rfl, rfl⟩
  · exact ⟨rfl, rfl⟩
  · refine ⟨rfl, ?_⟩
    have : (0 : Int) ≤ m / 8 % 10 ^ (20 : Int).toNat := Int.emod_nonneg _ (by decide)
    show (decide _ && decide (6 + m / 8 % 10 ^ (20 : Int).toNat ≤ 5)) = false
    rw [decide_eq_false (show ¬ (6 + m / 8 % 10 ^ (20 : Int).toNat ≤ 5) by omega), Bool.and_false]
  · exact ⟨rfl, rfl⟩
def tRules : List Nat := [114, 117, 108, 101, 115]
def brL (rules : List Rl) : List Dt := [.tup (rules.map rlD), .non, .dk [] [], .str tRules]
theorem brL_bad (rules : List Rl) (many : Int) : ∀ d ∈ brL rules, pl1 d = true ∧ (∀ l, d = .lst l → ∀ x ∈ l, pl2 x = true) ∧ rulesD d many = false := fun d hd => by
  simp only [brL, List.mem_cons, List.not_mem_nil, or_false] at hd
  rcases hd with z | z | z | z <;> subst z
  · exact ⟨rfl, fun l e => (nomatch e), rfl⟩
  · exact ⟨rfl, fun l e => (nomatch e), rfl⟩
  · exact ⟨rfl, fun l e => (nomatch e), rfl⟩
  · exact ⟨rfl, fun l e => (nomatch e), rfl⟩
def rl0 : Rl := ⟨0, 97, 0, []⟩
def longL (rules : List Rl) (m : Int) : List Dt := cutD (rules.map rlD ++ (List.replicate (13 : Int).toNat [rlD rl0]).flatten) none (some (13 + m % 3))
theorem longL_bad {rules : List Rl} {many m : Int} (h : ∀ r ∈ rules, GoodR many r) : (∀ x ∈ longL rules m, pl2 x = true) ∧ rulesD (.lst (longL rules m)) many = false := by
  refine ⟨fun x hx => ?_, ?_⟩
  · rcases List.mem_append.mp (mem_cutD hx) with z | z
    · exact rules_pl2 h x z
    · have e : x = rlD rl0 := by
        obtain ⟨l, hl, hx⟩ := List.mem_flatten.mp z
        rw [(List.mem_replicate.mp hl).2] at hx
        exact List.mem_singleton.mp hx
      rw [e]
      exact pl2_rule ⟨by decide, fun _ h => (nomatch h), by decide⟩
  · have hl : 13 ≤ (longL rules m).length := by
      have h0 := Int.emod_nonneg m (b := 3) (by decide)
      unfold longL cutD
      rw [List.length_take, List.length_drop, List.length_append, List.length_map]
      have e : (List.replicate (13 : Int).toNat [rlD rl0]).flatten.length = 13 := rfl
      rw [e]
      unfold HT.sIx
      simp only
      split <;> omega
    show (decide ((longL rules m).length ≤ 12) && _) = false
    rw [decide_eq_false (by omega), Bool.false_and]
def oddL (r : Rl) (many : Int) : List Dt := [.tup [.int r.s, .str [r.g], .int r.t], .tup [.int r.s, .str [r.g], .int r.t, .str r.p, .int 0], .lst [.int r.s, .str [r.g], .int r.t, .str r.p], .non, .tup [.int many, .str [r.g], .int r.t, .str r.p],
  .tup [.int r.s, .str [r.g], .int (-1), .str r.p], .tup [.int r.s, .str [r.g, 97], .int r.t, .str r.p], .tup [.int r.s, .str [r.g], .int r.t, .str [97, 98, 99]], .tup [.int r.s, .str [], .int r.t, .str []], .tup [.bl true, .str [r.g], .int r.t, .str []]]
theorem oddL_bad {r : Rl} {many : Int} (h : RlOk r) : ∀ d ∈ oddL r many, pl2 d = true ∧ ruleD d many = false := fun d hd => by
  have g1 : pl1 (.str [r.g]) = true := pl1_str (by simp) fun c hc => by rw [List.mem_singleton.mp hc]; exact h.g
  have g2 : pl1 (.str r.p) = true := pl1_str (by have := h.l; omega) h.p
  have g3 : pl1 (.str [r.g, 97]) = true := pl1_str (by simp) fun c hc => by
    simp only [List.mem_cons, List.not_mem_nil, or_false] at hc
    rcases hc with z | z
    · rw [z]; exact h.g
    · rw [z]; decide
  simp only [oddL, List.mem_cons, List.not_mem_nil, or_false] at hd
  rcases hd with z | z | z | z | z | z | z | z | z | z <;> subst z
  · refine ⟨pl2_of_tup fun d hd => ?_, rfl⟩
    simp only [List.mem_cons, List.not_mem_nil, or_false] at hd
    rcases hd with z | z | z <;> rw [z] <;> first | rfl | exact g1 | exact g2
  · refine ⟨pl2_of_tup fun d hd => ?_, rfl⟩
    simp only [List.mem_cons, List.not_mem_nil, or_false] at hd
    rcases hd with z | z | z | z | z <;> rw [z] <;> first | rfl | exact g1 | exact g2
  · exact ⟨rfl, rfl⟩
  · exact ⟨rfl, rfl⟩
  · refine ⟨pl2_of_tup fun d hd => ?_, ?_⟩
    · simp only [List.mem_cons, List.not_mem_nil, or_false] at hd
      rcases hd with z | z | z | z <;> rw [z] <;> first | rfl | exact g1 | exact g2
    · show (((decide _ && decide (many < many)) && _) && _) = false
      rw [decide_eq_false (Int.lt_irrefl many), Bool.and_false, Bool.false_and, Bool.false_and]
  · refine ⟨pl2_of_tup fun d hd => ?_, ?_⟩
    · simp only [List.mem_cons, List.not_mem_nil, or_false] at hd
      rcases hd with z | z | z | z <;> rw [z] <;> first | rfl | exact g1 | exact g2
    · show ((stateD (.int r.s) many && (signD (.str [r.g]) && (false && decide ((-1 : Int) < many)))) && (r.p.all sgOk && decide (r.p.length ≤ 2))) = false
      rw [Bool.false_and, Bool.and_false, Bool.and_false, Bool.false_and]
  · refine ⟨pl2_of_tup fun d hd => ?_, ?_⟩
    · simp only [List.mem_cons, List.not_mem_nil, or_false] at hd
      rcases hd with z | z | z | z <;> rw [z] <;> first | rfl | exact g1 | exact g2 | exact g3
    · show ((_ && (false && _)) && _) = false
      rw [Bool.false_and, Bool.and_false, Bool.false_and]
  · refine ⟨pl2_of_tup fun d hd => ?_, ?_⟩
    · simp only [List.mem_cons, List.not_mem_nil, or_false] at hd
      rcases hd with z | z | z | z <;> rw [z] <;> first | rfl | exact g1 | exact g2
    · show (_ && false) = false
      rw [Bool.and_false]
  · refine ⟨pl2_of_tup fun d hd => ?_, ?_⟩
    · simp only [List.mem_cons, List.not_mem_nil, or_false] at hd
      rcases hd with z | z | z | z <;> rw [z] <;> first | rfl | exact g1 | exact g2
    · show ((_ && (false && _)) && _) = false
      rw [Bool.false_and, Bool.and_false, Bool.false_and]
  · refine ⟨pl2_of_tup fun d hd => ?_, ?_⟩
    · simp only [List.mem_cons, List.not_mem_nil, or_false] at hd
      rcases hd with z | z | z | z <;> rw [z] <;> first | rfl | exact g1 | exact g2
    · rfl
theorem getD_in {α : Type} {l : List α} {i : Nat} (z : α) (h : i < l.length) : l.getD i z ∈ l := by
  rw [List.getD_eq_getElem?_getD, List.getElem?_eq_getElem h]
  exact List.getElem_mem h
theorem set_bad {rules : List Rl} {many : Int} {x : Dt} {i : Nat} (h : ∀ r ∈ rules, GoodR many r) (hi : i < rules.length) (h1 : pl2 x = true) (h2 : ruleD x many = false) : (∀ y ∈ (rules.map rlD).set i x, pl2 y = true) ∧ rulesD (.lst ((rules.map rlD).set i x)) many = false := by
  refine ⟨fun y hy => ?_, ?_⟩
  · rcases List.mem_or_eq_of_mem_set hy with z | z
    · exact rules_pl2 h y z
    · rw [z]; exact h1
  · show (_ && ((rules.map rlD).set i x).all fun x => ruleD x many) = false
    have : (((rules.map rlD).set i x).all fun x => ruleD x many) = false := by
      refine Bool.eq_false_iff.mpr fun q => ?_
      have hm : x ∈ (rules.map rlD).set i x := List.mem_set (by rw [List.length_map]; exact hi) _
      have := List.all_eq_true.mp q x hm
      rw [h2] at this
      cases this
    rw [this, Bool.and_false]
end LM

set_option Elab.async false
set_option linter.all false
set_option maxRecDepth 100000
set_option maxHeartbeats 2000000
/-! LM9: walks and what they cost; least is the number of steps. -/
namespace LM
open PySem PySem.Spec L2 DL
/-- a walk over the arrows of W that reads the text, and its cost -/
def WalkC (W : List (Arw × Int)) (n : Nat) : Int → List Nat → Int → Int → Prop
  | a, [], b, c => a = b ∧ c = 0
  | a, g :: t, b, c => ∃ m x c', 0 ≤ m ∧ m < (n : Int) ∧ lkG W (a, g, m) = some x ∧ WalkC W n m t b c' ∧ c = x + c'
section
variable {W : List (Arw × Int)} {n : Nat}
theorem WalkC.snoc {g : Nat} {m b x : Int} (hb : 0 ≤ b ∧ b < (n : Int)) (h : lkG W (m, g, b) = some x) : ∀ {t : List Nat} {a c : Int}, WalkC W n a t m c → WalkC W n a (t ++ [g]) b (c + x)
  | [], a, c, hw => by
    obtain ⟨rfl, rfl⟩ := hw
    exact ⟨b, x, 0, hb.1, hb.2, h, ⟨rfl, rfl⟩, by omega⟩
  | g' :: t, a, c, hw => by
    obtain ⟨m', x', c', h1, h2, h3, h4, rfl⟩ := hw
    exact ⟨m', x', c' + x, h1, h2, h3, WalkC.snoc hb h h4, by omega⟩
theorem WalkC.unsnoc {g : Nat} {b : Int} : ∀ {t : List Nat} {a c : Int}, WalkC W n a (t ++ [g]) b c → ∃ m x c', WalkC W n a t m c' ∧ lkG W (m, g, b) = some x ∧ 0 ≤ b ∧ b < (n : Int) ∧ c = c' + x
  | [], a, c, hw => by
    obtain ⟨m, x, c', h1, h2, h3, h4, rfl⟩ := hw
    obtain ⟨rfl, rfl⟩ := h4
    exact ⟨a, x, 0, ⟨rfl, rfl⟩, h3, h1, h2, by omega⟩
  | g' :: t, a, c, hw => by
    obtain ⟨m', x', c', h1, h2, h3, h4, rfl⟩ := hw
    obtain ⟨m, x, c2, q1, q2, q3, q4, rfl⟩ := WalkC.unsnoc h4
    exact ⟨m, x, x' + c2, ⟨m', x', c2, h1, h2, h3, q1, rfl⟩, q2, q3, q4, by omega⟩
theorem WalkC.app {b e c2 : Int} {u : List Nat} (h2 : WalkC W n b u e c2) : ∀ {t : List Nat} {a c : Int}, WalkC W n a t b c → WalkC W n a (t ++ u) e (c + c2)
  | [], a, c, hw => by
    obtain ⟨rfl, rfl⟩ := hw
    rw [Int.zero_add]
    exact h2
  | g :: t, a, c, hw => by
    obtain ⟨m, x, c', q1, q2, q3, q4, rfl⟩ := hw
    exact ⟨m, x, c' + c2, q1, q2, q3, WalkC.app h2 q4, by omega⟩
theorem WalkC.split {e : Int} {u : List Nat} : ∀ {t : List Nat} {a c : Int}, WalkC W n a (t ++ u) e c → ∃ b c1 c2, WalkC W n a t b c1 ∧ WalkC W n b u e c2 ∧ c = c1 + c2
  | [], a, c, hw => ⟨a, 0, c, ⟨rfl, rfl⟩, hw, by omega⟩
  | g :: t, a, c, hw => by
    obtain ⟨m, x, c', q1, q2, q3, q4, rfl⟩ := hw
    obtain ⟨b, c1, c2, k1, k2, rfl⟩ := WalkC.split q4
    exact ⟨b, x + c1, c2, ⟨m, x, c1, q1, q2, q3, k1, rfl⟩, k2, by omega⟩
theorem WalkC.end_in {b : Int} : ∀ {t : List Nat} {a c : Int}, 0 ≤ a ∧ a < (n : Int) → WalkC W n a t b c → 0 ≤ b ∧ b < (n : Int)
  | [], a, c, ha, hw => by
    obtain ⟨rfl, _⟩ := hw
    exact ha
  | g :: t, a, c, ha, hw => by
    obtain ⟨m, x, c', q1, q2, q3, q4, rfl⟩ := hw
    exact WalkC.end_in ⟨q1, q2⟩ q4
theorem WalkC.nn (hW : ∀ k v, lkG W k = some v → 0 ≤ v) {b : Int} : ∀ {t : List Nat} {a c : Int}, WalkC W n a t b c → 0 ≤ c
  | [], a, c, hw => by
    obtain ⟨_, rfl⟩ := hw
    exact Int.le_refl 0
  | g :: t, a, c, hw => by
    obtain ⟨m, x, c', q1, q2, q3, q4, rfl⟩ := hw
    have := hW _ _ q3
    have := WalkC.nn hW q4
    omega
/-! ### keep, rows -/
theorem keep_le {R : List (Int × Int)} {j k w v : Int} (h : lkG R j = some v) : ∃ v', lkG (keepG R k w).2 j = some v' ∧ v' ≤ v := by
  unfold keepG
  cases q : lkG R k with
  | none =>
    refine ⟨v, ?_, Int.le_refl _⟩
    show lkG (putG R k w) j = some v
    rw [lkG_put, if_neg (fun z => by rw [z, q] at h; cases h), h]
  | some x =>
    show ∃ v', lkG (if x ≤ w then (false, R) else (true, putG R k w)).2 j = some v' ∧ v' ≤ v
    by_cases hx : x ≤ w
    · rw [if_pos hx]; exact ⟨v, h, Int.le_refl _⟩
    · rw [if_neg hx]
      show ∃ v', lkG (putG R k w) j = some v' ∧ v' ≤ v
      rw [lkG_put]
      by_cases z : j = k
      · rw [if_pos z]
        rw [z, q] at h
        cases h
        exact ⟨w, rfl, by omega⟩
      · rw [if_neg z]; exact ⟨v, h, Int.le_refl _⟩
theorem keep_has {R : List (Int × Int)} {k w : Int} : ∃ v', lkG (keepG R k w).2 k = some v' ∧ v' ≤ w := by
  unfold keepG
  cases q : lkG R k with
  | none => exact ⟨w, by show lkG (putG R k w) k = some w; rw [lkG_put, if_pos rfl], Int.le_refl _⟩
  | some x =>
    show ∃ v', lkG (if x ≤ w then (false, R) else (true, putG R k w)).2 k = some v' ∧ v' ≤ w
    by_cases hx : x ≤ w
    · rw [if_pos hx]; exact ⟨x, q, hx⟩
    · rw [if_neg hx]
      exact ⟨w, by show lkG (putG R k w) k = some w; rw [lkG_put, if_pos rfl], Int.le_refl _⟩
theorem keep_from {κ : Type} [DecidableEq κ] {R : List (κ × Int)} {j k : κ} {w v : Int} (h : lkG (keepG R k w).2 j = some v) : lkG R j = some v ∨ (j = k ∧ v = w) := by
  unfold keepG at h
  cases q : lkG R k with
  | none =>
    rw [q] at h
    have h : lkG (putG R k w) j = some v := h
    rw [lkG_put] at h
    by_cases z : j = k
    · rw [if_pos z] at h; cases h; exact .inr ⟨z, rfl⟩
    · rw [if_neg z] at h; exact .inl h
  | some x =>
    rw [q] at h
    have h : lkG (if x ≤ w then (false, R) else (true, putG R k w)).2 j = some v := h
    by_cases hx : x ≤ w
    · rw [if_pos hx] at h; exact .inl h
    · rw [if_neg hx] at h
      have h : lkG (putG R k w) j = some v := h
      rw [lkG_put] at h
      by_cases z : j = k
      · rw [if_pos z] at h; cases h; exact .inr ⟨z, rfl⟩
      · rw [if_neg z] at h; exact .inl h
theorem row_le {g : Nat} {room c j v : Int} {acc : List (Int × Int)} (h : lkG acc j = some v) : ∀ n, ∃ v', lkG (readRow W g room c n acc) j = some v' ∧ v' ≤ v
  | 0 => ⟨v, h, Int.le_refl _⟩
  | n + 1 => by
    obtain ⟨v1, h1, h2⟩ := row_le h n
    rw [readRow_succ]
    split
    · obtain ⟨v2, h3, h4⟩ := keep_le (k := (n : Int)) (w := c + _) h1
      exact ⟨v2, h3, by omega⟩
    · exact ⟨v1, h1, h2⟩
theorem row_has {g : Nat} {room c x : Int} {acc : List (Int × Int)} {i : Nat} (h : lkG W (room, g, (i : Int)) = some x) : ∀ n, i < n → ∃ v', lkG (readRow W g room c n acc) (i : Int) = some v' ∧ v' ≤ c + x
  | 0, hi => absurd hi (Nat.not_lt_zero _)
  | n + 1, hi => by
    rw [readRow_succ]
    by_cases e : i = n
    · subst e
      rw [h]
      exact keep_has
    · obtain ⟨v1, h1, h2⟩ := row_has (c := c) (acc := acc) h n (by omega)
      split
      · obtain ⟨v2, h3, h4⟩ := keep_le (k := (n : Int)) (w := c + _) h1
        exact ⟨v2, h3, by omega⟩
      · exact ⟨v1, h1, h2⟩
theorem row_from {g : Nat} {room c j v : Int} {acc : List (Int × Int)} : ∀ n, lkG (readRow W g room c n acc) j = some v → lkG acc j = some v ∨ ∃ x, 0 ≤ j ∧ j < (n : Int) ∧ lkG W (room, g, j) = some x ∧ v = c + x
  | 0, h => .inl h
  | n + 1, h => by
    rw [readRow_succ] at h
    split at h
    · rename_i w hw
      rcases keep_from h with h | ⟨rfl, rfl⟩
      · rcases row_from n h with h | ⟨x, h0, h1, h2, h3⟩
        · exact .inl h
        · exact .inr ⟨x, h0, by omega, h2, h3⟩
      · exact .inr ⟨w, by omega, by omega, hw, rfl⟩
    · rcases row_from n h with h | ⟨x, h0, h1, h2, h3⟩
      · exact .inl h
      · exact .inr ⟨x, h0, by omega, h2, h3⟩
theorem on_has {R : List (Int × Int)} {g : Nat} {m b c x : Int} (hm : lkG R m = some c) (hb : 0 ≤ b ∧ b < (n : Int)) (h : lkG W (m, g, b) = some x) : ∃ v, lkG (readOn W n R g) b = some v ∧ v ≤ c + x := by
  have hmem : m ∈ R.map (·.1) := lk_some' hm
  unfold readOn
  obtain ⟨i, rfl⟩ : ∃ i : Nat, b = i := ⟨b.toNat, by omega⟩
  have hi : i < n := by omega
  have up : ∀ (l : List Int) (acc : List (Int × Int)) (v : Int), lkG acc (i : Int) = some v → ∃ v', lkG (l.foldl (fun acc r => readRow W g r ((lkG R r).getD 0) n acc) acc) (i : Int) = some v' ∧ v' ≤ v := by
    intro l
    induction l with
    | nil => exact fun acc v h => ⟨v, h, Int.le_refl _⟩
    | cons r l ih =>
      intro acc v h
      obtain ⟨v1, h1, h2⟩ := row_le (W := W) (g := g) (room := r) (c := (lkG R r).getD 0) h n
      obtain ⟨v2, h3, h4⟩ := ih _ v1 h1
      exact ⟨v2, h3, by omega⟩
  have : ∀ (l : List Int) (acc : List (Int × Int)), m ∈ l → ∃ v', lkG (l.foldl (fun acc r => readRow W g r ((lkG R r).getD 0) n acc) acc) (i : Int) = some v' ∧ v' ≤ c + x := by
    intro l
    induction l with
    | nil => exact fun acc h => nomatch h
    | cons r l ih =>
      intro acc hml
      rcases List.mem_cons.mp hml with z | z
      · subst z
        obtain ⟨v1, h1, h2⟩ := row_has (c := (lkG R m).getD 0) (acc := acc) h n hi
        obtain ⟨v2, h3, h4⟩ := up l _ v1 h1
        rw [hm] at h2
        exact ⟨v2, h3, by have : v1 ≤ c + x := h2; omega⟩
      · exact ih _ z
  exact this _ _ hmem
where
  lk_some' {R : List (Int × Int)} {k v : Int} (h : lkG R k = some v) : k ∈ R.map (·.1) := by
    have : (R.any fun p => decide (p.1 = k)) = true := by rw [lkG_any, h]; rfl
    obtain ⟨p, hp, e⟩ := List.any_eq_true.mp this
    exact List.mem_map.mpr ⟨p, hp, of_decide_eq_true e⟩
theorem on_from {R : List (Int × Int)} {g : Nat} {b v : Int} (h : lkG (readOn W n R g) b = some v) : ∃ m c x, lkG R m = some c ∧ 0 ≤ b ∧ b < (n : Int) ∧ lkG W (m, g, b) = some x ∧ v = c + x := by
  unfold readOn at h
  have : ∀ (l : List Int) (acc : List (Int × Int)), (∀ r ∈ l, r ∈ R.map (·.1)) → lkG (l.foldl (fun acc r => readRow W g r ((lkG R r).getD 0) n acc) acc) b = some v → lkG acc b = some v ∨ ∃ m c x, lkG R m = some c ∧ 0 ≤ b ∧ b < (n : Int) ∧ lkG W (m, g, b) = some x ∧ v = c + x := by
    intro l
    induction l with
    | nil => exact fun acc _ h => .inl h
    | cons r l ih =>
      intro acc hl h
      rcases ih _ (fun q hq => hl q (List.mem_cons_of_mem _ hq)) h with h | h
      · rcases row_from n h with h | ⟨x, h0, h1, h2, h3⟩
        · exact .inl h
        · obtain ⟨c, hc⟩ := lk_of_mem (hl r List.mem_cons_self)
          rw [hc] at h3
          exact .inr ⟨r, c, x, hc, h0, h1, h2, h3⟩
      · exact .inr h
  rcases this _ _ (fun _ h => h) h with h | h
  · cases h
  · exact h
/-- what is read costs no more than any walk -/
theorem read_le {a b c : Int} (text : List Nat) (h : WalkC W n a text b c) : ∃ v, lkG (readFrom W n a text) b = some v ∧ v ≤ c := by
  have : ∀ (t : List Nat) (b c : Int), WalkC W n a t.reverse b c → ∃ v, lkG (readFrom W n a t.reverse) b = some v ∧ v ≤ c := by
    intro t
    induction t with
    | nil =>
      rintro b c ⟨rfl, rfl⟩
      exact ⟨0, by show lkG [(a, (0 : Int))] a = some 0; exact lkG_pos rfl, Int.le_refl _⟩
    | cons g t ih =>
      intro b c hw
      rw [List.reverse_cons] at hw ⊢
      obtain ⟨m, x, c', h1, h2, h3, h4, rfl⟩ := hw.unsnoc
      obtain ⟨v1, k1, k2⟩ := ih m c' h1
      rw [readFrom_snoc]
      obtain ⟨v2, k3, k4⟩ := on_has k1 ⟨h3, h4⟩ h2
      exact ⟨v2, k3, by omega⟩
  have := this text.reverse b c (by rw [List.reverse_reverse]; exact h)
  rwa [List.reverse_reverse] at this
/-- what is read is a walk -/
theorem read_walk {a b v : Int} (text : List Nat) (h : lkG (readFrom W n a text) b = some v) : WalkC W n a text b v := by
  have : ∀ (t : List Nat) (b v : Int), lkG (readFrom W n a t.reverse) b = some v → WalkC W n a t.reverse b v := by
    intro t
    induction t with
    | nil =>
      intro b v h
      have h : lkG [(a, (0 : Int))] b = some v := h
      by_cases e : a = b
      · rw [lkG_pos e] at h
        cases h
        exact ⟨e, rfl⟩
      · rw [lkG_neg e] at h
        cases h
    | cons g t ih =>
      intro b v h
      rw [List.reverse_cons] at h ⊢
      rw [readFrom_snoc] at h
      obtain ⟨m, c, x, h1, h2, h3, h4, rfl⟩ := on_from h
      exact (ih m c h1).snoc ⟨h2, h3⟩ h4
  have := this text.reverse b v (by rw [List.reverse_reverse]; exact h)
  rwa [List.reverse_reverse] at this
end
/-! ### what the weights tell -/
/-- W' is no heavier -/
def Dec (W' W : List (Arw × Int)) : Prop := ∀ k x, lkG W k = some x → ∃ x', lkG W' k = some x' ∧ x' ≤ x
theorem Dec.refl (W : List (Arw × Int)) : Dec W W := fun _ x h => ⟨x, h, Int.le_refl _⟩
theorem Dec.trans {A B C : List (Arw × Int)} (h1 : Dec A B) (h2 : Dec B C) : Dec A C := fun k x h => by
  obtain ⟨y, q1, q2⟩ := h2 k x h
  obtain ⟨z, q3, q4⟩ := h1 k y q1
  exact ⟨z, q3, by omega⟩
theorem Dec.keep (W : List (Arw × Int)) (k : Arw) (w : Int) : Dec (keepG W k w).2 W := fun j v h => by
  unfold keepG
  cases q : lkG W k with
  | none =>
    refine ⟨v, ?_, Int.le_refl _⟩
    show lkG (putG W k w) j = some v
    rw [lkG_put, if_neg (fun z => by rw [z, q] at h; cases h), h]
  | some x =>
    show ∃ v', lkG (if x ≤ w then (false, W) else (true, putG W k w)).2 j = some v' ∧ v' ≤ v
    by_cases hx : x ≤ w
    · rw [if_pos hx]; exact ⟨v, h, Int.le_refl _⟩
    · rw [if_neg hx]
      show ∃ v', lkG (putG W k w) j = some v' ∧ v' ≤ v
      rw [lkG_put]
      by_cases z : j = k
      · rw [if_pos z]
        rw [z, q] at h
        cases h
        exact ⟨w, rfl, by omega⟩
      · rw [if_neg z]; exact ⟨v, h, Int.le_refl _⟩
theorem WalkC.dec {W W' : List (Arw × Int)} {n : Nat} (d : Dec W' W) {b : Int} : ∀ {t : List Nat} {a c : Int}, WalkC W n a t b c → ∃ c', WalkC W' n a t b c' ∧ c' ≤ c
  | [], a, c, hw => ⟨c, hw, Int.le_refl _⟩
  | g :: t, a, c, hw => by
    obtain ⟨m, x, c', q1, q2, q3, q4, rfl⟩ := hw
    obtain ⟨x', k1, k2⟩ := d _ _ q3
    obtain ⟨c2, k3, k4⟩ := WalkC.dec d q4
    exact ⟨x' + c2, ⟨m, x', c2, q1, q2, k1, k3, rfl⟩, by omega⟩
/-- own arrows weigh 0, each other has a rule and a walk -/
structure Snd (n : Nat) (rules : List Rl) (own : List Arw) (W : List (Arw × Int)) : Prop where
  ow : ∀ a ∈ own, lkG W a = some 0
  nn : ∀ k v, lkG W k = some v → 0 ≤ v
  rsn : ∀ k v, lkG W k = some v → k ∈ own ∨ ∃ r ∈ rules, ∃ room c, k = (r.s, r.g, room) ∧ WalkC W n r.t r.p room c ∧ c + 1 ≤ v
theorem Snd.keep {n : Nat} {rules : List Rl} {own : List Arw} {W : List (Arw × Int)} (h : Snd n rules own W) {r : Rl} (hr : r ∈ rules) {room c : Int} (hw : WalkC W n r.t r.p room c) {w : Int} (hc : c + 1 ≤ w) : Snd n rules own (keepG W (r.s, r.g, room) w).2 := by
  have c0 := hw.nn h.nn
  have d := Dec.keep W (r.s, r.g, room) w
  refine ⟨fun a ha => ?_, fun k v hv => ?_, fun k v hv => ?_⟩
  · obtain ⟨x, h1, h2⟩ := d a 0 (h.ow a ha)
    rcases keep_from h1 with q | ⟨_, rfl⟩
    · rw [h1, ← q, h.ow a ha]
    · omega
  · rcases keep_from hv with q | ⟨_, rfl⟩
    · exact h.nn k v q
    · omega
  · rcases keep_from hv with q | ⟨rfl, rfl⟩
    · rcases h.rsn k v q with q | ⟨r', hr', room', c', e, hw', hc'⟩
      · exact .inl q
      · obtain ⟨c2, q1, q2⟩ := hw'.dec d
        exact .inr ⟨r', hr', room', c2, e, q1, by omega⟩
    · obtain ⟨c2, q1, q2⟩ := hw.dec d
      exact .inr ⟨r, hr, room, c2, rfl, q1, by omega⟩
theorem Snd.rule {n : Nat} {rules : List Rl} {own : List Arw} {st : Bool × List (Arw × Int)} (h : Snd n rules own st.2) {r : Rl} (hr : r ∈ rules) : Snd n rules own (bringRule n st r).2 := by
  unfold bringRule
  generalize hR : readFrom st.2 n r.t r.p = R
  have key : ∀ (l : List Int) (st' : Bool × List (Arw × Int)), (∀ q ∈ l, q ∈ R.map (·.1)) → Dec st'.2 st.2 → Snd n rules own st'.2 → Snd n rules own (l.foldl (bringRow R r.s r.g) st').2 := by
    intro l
    induction l with
    | nil => exact fun st' _ _ h => h
    | cons room l ih =>
      intro st' hl hd hs
      obtain ⟨c, hc⟩ := lk_of_mem (hl room List.mem_cons_self)
      have hw : WalkC st.2 n r.t r.p room c := read_walk r.p (by rw [hR]; exact hc)
      obtain ⟨c2, q1, q2⟩ := hw.dec hd
      refine ih _ (fun q hq => hl q (List.mem_cons_of_mem _ hq)) ?_ ?_
      · exact (Dec.keep _ _ _).trans hd
      · refine hs.keep hr q1 ?_
        rw [hc]
        show c2 + 1 ≤ c + 1
        omega
  exact key _ st (fun _ h => h) (Dec.refl _) h
theorem Snd.bring {n : Nat} {rules : List Rl} {own : List Arw} {W : List (Arw × Int)} (h : Snd n rules own W) : Snd n rules own (bring n rules W).2 := by
  unfold LM.bring
  have : ∀ (l : List Rl) (st : Bool × List (Arw × Int)), (∀ r ∈ l, r ∈ rules) → Snd n rules own st.2 → Snd n rules own (l.foldl (bringRule n) st).2 := by
    intro l
    induction l with
    | nil => exact fun st _ h => h
    | cons r l ih => exact fun st hl h => ih _ (fun q hq => hl q (List.mem_cons_of_mem _ hq)) (h.rule (hl r List.mem_cons_self))
  exact this rules (false, W) (fun _ h => h) h
theorem ownW_lk (own : List Arw) : ∀ k v, lkG (ownW own) k = some v → k ∈ own ∧ v = 0 := by
  unfold ownW
  have : ∀ (l : List Arw) (W : List (Arw × Int)), (∀ a ∈ l, a ∈ own) → (∀ k v, lkG W k = some v → k ∈ own ∧ v = 0) → ∀ k v, lkG (l.foldl (fun W a => putG W a 0) W) k = some v → k ∈ own ∧ v = 0 := by
    intro l
    induction l with
    | nil => exact fun W _ h => h
    | cons a l ih =>
      intro W hl h
      refine ih _ (fun q hq => hl q (List.mem_cons_of_mem _ hq)) fun k v hv => ?_
      rw [lkG_put] at hv
      by_cases e : k = a
      · rw [if_pos e] at hv
        cases hv
        exact ⟨by rw [e]; exact hl a List.mem_cons_self, rfl⟩
      · rw [if_neg e] at hv
        exact h k v hv
  exact this own [] (fun _ h => h) fun k v h => nomatch h
theorem ownW_has (own : List Arw) : ∀ a ∈ own, lkG (ownW own) a = some 0 := by
  unfold ownW
  have up : ∀ (l : List Arw) (W : List (Arw × Int)) (a : Arw), lkG W a = some 0 → lkG (l.foldl (fun W a => putG W a 0) W) a = some 0 := by
    intro l
    induction l with
    | nil => exact fun W a h => h
    | cons b l ih =>
      intro W a h
      refine ih _ a ?_
      rw [lkG_put]
      split
      · rfl
      · exact h
  have : ∀ (l : List Arw) (W : List (Arw × Int)), ∀ a ∈ l, lkG (l.foldl (fun W a => putG W a 0) W) a = some 0 := by
    intro l
    induction l with
    | nil => exact fun W a h => nomatch h
    | cons b l ih =>
      intro W a h
      rcases List.mem_cons.mp h with z | z
      · exact up l _ a (by rw [lkG_put, if_pos z])
      · exact ih _ a z
  exact this own []
theorem Snd.start (n : Nat) (rules : List Rl) (own : List Arw) : Snd n rules own (ownW own) :=
  ⟨ownW_has own, fun k v h => by rw [(ownW_lk own k v h).2]; exact Int.le_refl _, fun k v h => .inl (ownW_lk own k v h).1⟩
theorem snd_it (n : Nat) (rules : List Rl) (own : List Arw) : ∀ i, Snd n rules own (itW n rules (ownW own) i)
  | 0 => .start n rules own
  | i + 1 => (snd_it n rules own i).bring
end LM

set_option Elab.async false
set_option linter.all false
set_option maxRecDepth 100000
set_option maxHeartbeats 2000000
/-! LM10: what is read, and the steps. -/
namespace LM
open PySem PySem.Spec L2 DL
/-- a reader's tables -/
structure Mach (many a : Int) (pl : List Nat) (rules : List Rl) (R : Nat) (e : Int) (W : List (Arw × Int)) : Prop where
  m0 : 0 < many
  rl : ∀ r ∈ rules, GoodR many r
  a0 : 0 ≤ a
  a1 : a < many
  hR : (R : Int) = many + (pl.length : Int)
  he : e = if pl.isEmpty = true then a else many + (pl.length : Int) - 1
  cl : Closed R rules W
  sn : Snd R rules (ownAs many a pl pl.length) W
section
variable {many a : Int} {pl : List Nat} {rules : List Rl} {R : Nat} {e : Int} {W : List (Arw × Int)}
theorem mem_own {k : Arw} (h : k ∈ ownAs many a pl pl.length) : ∃ j : Nat, j < pl.length ∧ k = (roomAt many a j, pl.getD j 0, many + (j : Int)) := by
  obtain ⟨j, hj, rfl⟩ := List.mem_map.mp h
  exact ⟨j, List.mem_range.mp hj, rfl⟩
theorem own_mem {j : Nat} (h : j < pl.length) : (roomAt many a j, pl.getD j 0, many + (j : Int)) ∈ ownAs many a pl pl.length := List.mem_map.mpr ⟨j, List.mem_range.mpr h, rfl⟩
theorem roomAt_end (M : Mach many a pl rules R e W) : roomAt many a pl.length = e := by
  rw [M.he]
  cases pl with
  | nil => rfl
  | cons g t =>
    show many + (t.length : Int) = many + ((t.length + 1 : Nat) : Int) - 1
    omega
theorem goal_walk (M : Mach many a pl rules R e W) : ∀ k j, j + k = pl.length → WalkC W R (roomAt many a j) (pl.drop j) e 0
  | 0, j, h => by
    have h : j = pl.length := h
    subst h
    rw [List.drop_length]
    exact ⟨roomAt_end M, rfl⟩
  | k + 1, j, h => by
    have hj : j < pl.length := by omega
    rw [List.drop_eq_getElem_cons hj]
    have ho := M.sn.ow _ (own_mem (many := many) (a := a) hj)
    rw [List.getD_eq_getElem?_getD, List.getElem?_eq_getElem hj] at ho
    have hR := M.hR
    have m0 := M.m0
    refine ⟨many + (j : Int), 0, 0, by omega, by omega, ho, ?_, by omega⟩
    exact goal_walk M k (j + 1) (by omega)
theorem goal_read (M : Mach many a pl rules R e W) : lkG (readFrom W R a pl) e = some 0 := by
  obtain ⟨v, h1, h2⟩ := read_le pl (goal_walk M pl.length 0 (by omega))
  have := (read_walk pl h1).nn M.sn.nn
  have e : v = 0 := by omega
  rw [e] at h1
  exact h1
/-- ahead of a step it is no more than one more -/
theorem step_le (M : Mach many a pl rules R e W) {r : Rl} (hr : r ∈ rules) {tl : List Nat} {v : Int} (h : lkG (readFrom W R r.t (r.p ++ tl)) e = some v) : ∃ v', lkG (readFrom W R r.s (r.g :: tl)) e = some v' ∧ v' ≤ v + 1 := by
  obtain ⟨m, c1, c2, h1, h2, rfl⟩ := (read_walk _ h).split
  obtain ⟨v1, k1, k2⟩ := read_le _ h1
  have gr := M.rl r hr
  have hR := M.hR
  have m0 := M.m0
  have hm := h1.end_in ⟨gr.t0, by have := gr.t1; omega⟩
  have hmem : m ∈ (readFrom W R r.t r.p).map (·.1) := by
    have : ((readFrom W R r.t r.p).any fun p => decide (p.1 = m)) = true := by rw [lkG_any, k1]; rfl
    obtain ⟨p, hp, e⟩ := List.any_eq_true.mp this
    exact List.mem_map.mpr ⟨p, hp, of_decide_eq_true e⟩
  obtain ⟨x, q1, q2⟩ := M.cl r hr m hmem
  rw [k1] at q2
  have q2 : x ≤ v1 + 1 := q2
  obtain ⟨v', w1, w2⟩ := read_le (W := W) (n := R) (a := r.s) (b := e) (c := x + c2) (r.g :: tl) ⟨m, x, c2, hm.1, hm.2, q1, h2, rfl⟩
  exact ⟨v', w1, by omega⟩
/-- from the goal's own rooms there is the goal's own way alone -/
theorem room_walk (M : Mach many a pl rules R e W) : ∀ (t : List Nat) (j : Nat) (c : Int), j < pl.length → WalkC W R (many + (j : Int)) t e c → t = pl.drop (j + 1)
  | [], j, c, hj, h => by
    obtain ⟨h1, _⟩ := h
    have he := M.he
    have : pl.isEmpty = false := by cases pl with
      | nil => exact absurd hj (Nat.not_lt_zero _)
      | cons => rfl
    rw [this, if_neg Bool.false_ne_true] at he
    have : j + 1 = pl.length := by omega
    rw [this, List.drop_length]
  | g :: t, j, c, hj, h => by
    obtain ⟨m, x, c', h0, h1, h2, h3, rfl⟩ := h
    rcases M.sn.rsn _ _ h2 with q | ⟨r, hr, room, c2, e2, _, _⟩
    · obtain ⟨i, hi, e2⟩ := mem_own q
      injection e2 with e3 e4
      injection e4 with e4 e5
      cases i with
      | zero =>
        have : many + (j : Int) = a := e3
        have := M.a1
        omega
      | succ i =>
        have : many + (j : Int) = many + (i : Int) := e3
        have ei : i = j := by omega
        subst ei
        have hm : m = many + ((i + 1 : Nat) : Int) := e5
        subst hm
        have ih := room_walk M t (i + 1) c' hi h3
        rw [List.drop_eq_getElem_cons hi, ← ih, e4, List.getD_eq_getElem?_getD, List.getElem?_eq_getElem hi]
        rfl
    · injection e2 with e3 e4
      have := (M.rl r hr).s1
      omega
/-- what is read is the goal, or one step leads to what is read with less -/
theorem step_ge (M : Mach many a pl rules R e W) {s : Int} {p : List Nat} {v : Int} (hs : s < many) (h : lkG (readFrom W R s p) e = some v) : (s = a ∧ p = pl) ∨ ∃ r ∈ rules, ∃ tl, p = r.g :: tl ∧ s = r.s ∧ ∃ v', lkG (readFrom W R r.t (r.p ++ tl)) e = some v' ∧ v' + 1 ≤ v := by
  have hw := read_walk _ h
  cases p with
  | nil =>
    obtain ⟨h1, _⟩ := hw
    have he := M.he
    cases hp : pl.isEmpty with
    | true =>
      rw [hp, if_pos rfl] at he
      exact .inl ⟨by rw [h1, he], (List.isEmpty_iff.mp hp).symm⟩
    | false =>
      rw [hp, if_neg Bool.false_ne_true] at he
      have : 0 < pl.length := by cases pl with
        | nil => cases hp
        | cons => simp
      omega
  | cons g t =>
    obtain ⟨m, x, c', h0, h1, h2, h3, rfl⟩ := hw
    rcases M.sn.rsn _ _ h2 with q | ⟨r, hr, room, c2, e2, hw2, hc2⟩
    · obtain ⟨i, hi, e2⟩ := mem_own q
      injection e2 with e3 e4
      injection e4 with e4 e5
      cases i with
      | zero =>
        have e3 : s = a := e3
        have e5 : m = many + ((0 : Nat) : Int) := e5
        subst e5
        have ih := room_walk M t 0 c' hi h3
        refine .inl ⟨e3, ?_⟩
        have h0 : pl = pl.drop 0 := rfl
        rw [h0, List.drop_eq_getElem_cons hi, ← ih, e4, List.getD_eq_getElem?_getD, List.getElem?_eq_getElem hi]
        rfl
      | succ i =>
        have : s = many + (i : Int) := e3
        omega
    · injection e2 with e3 e4
      injection e4 with e4 e5
      subst e5
      obtain ⟨v', k1, k2⟩ := read_le _ (h3.app hw2)
      exact .inr ⟨r, hr, t, by rw [e4], e3, v', k1, by omega⟩
theorem read_nn (M : Mach many a pl rules R e W) {s : Int} {p : List Nat} {v : Int} (h : lkG (readFrom W R s p) e = some v) : 0 ≤ v := (read_walk _ h).nn M.sn.nn
/-- only the goal is read at no cost -/
theorem read_zero (M : Mach many a pl rules R e W) {s : Int} {p : List Nat} (hs : s < many) (h : lkG (readFrom W R s p) e = some 0) : s = a ∧ p = pl := by
  rcases step_ge M hs h with q | ⟨r, _, tl, _, _, v', h1, h2⟩
  · exact q
  · have := read_nn M h1
    omega
end
/-! ### the spots behind a spot -/
def laters (rs : List Rl) (a : Int) (pl : List Nat) : List (Int × List Nat) := (rs.filter fun r => goes r a pl).map fun r => (r.t, r.p ++ pl.tail)
def spD (q : Int × List Nat) : Dt := .tup [.int q.1, .str q.2]
theorem goes_iff {r : Rl} {a : Int} {pl : List Nat} : goes r a pl = true ↔ a = r.s ∧ ∃ tl, pl = r.g :: tl := by
  unfold goes
  rw [Bool.and_eq_true, decide_eq_true_eq, decide_eq_true_eq]
  constructor
  · rintro ⟨h1, h2⟩
    cases pl with
    | nil => cases h2
    | cons g t => cases h2; exact ⟨h1, t, rfl⟩
  · rintro ⟨h1, tl, rfl⟩
    exact ⟨h1, rfl⟩
theorem mem_laters {rs : List Rl} {a : Int} {pl : List Nat} {q : Int × List Nat} (h : q ∈ laters rs a pl) : ∃ r ∈ rs, ∃ tl, a = r.s ∧ pl = r.g :: tl ∧ q = (r.t, r.p ++ tl) := by
  obtain ⟨r, hr, rfl⟩ := List.mem_map.mp h
  obtain ⟨h1, h2⟩ := List.mem_filter.mp hr
  obtain ⟨e1, tl, rfl⟩ := goes_iff.mp h2
  exact ⟨r, h1, tl, e1, rfl, rfl⟩
theorem laters_mem {rs : List Rl} {r : Rl} (hr : r ∈ rs) (tl : List Nat) : (r.t, r.p ++ tl) ∈ laters rs r.s (r.g :: tl) :=
  List.mem_map.mpr ⟨r, List.mem_filter.mpr ⟨hr, goes_iff.mpr ⟨rfl, tl, rfl⟩⟩, rfl⟩
end LM

set_option Elab.async false
set_option linter.all false
set_option maxRecDepth 100000
set_option maxHeartbeats 2000000
/-! LM11: what the laws draw: rules, goals, spots. -/
namespace LM
open PySem PySem.Spec L2 DL
def rszN (ns : List Int) : Nat := ([12, 9, 11, 7, 12, 10, 4, 12, 8, 0] : List Nat).getD (cell ns 2 % 10).toNat 0
theorem rszN_le (ns : List Int) : rszN ns ≤ 12 := by
  unfold rszN
  rw [List.getD_eq_getElem?_getD]
  cases e : ([12, 9, 11, 7, 12, 10, 4, 12, 8, 0] : List Nat)[(cell ns 2 % 10).toNat]? with
  | none => exact Nat.zero_le _
  | some x =>
    have := List.mem_of_getElem? e
    simp only [List.mem_cons, List.not_mem_nil, or_false] at this
    show x ≤ 12
    omega
def goalP (c : Int) (sl : List Nat) : List Nat := (List.range (c / 5 % 5).toNat).map fun k => (some5 sl).getD (mixed c k % 5).toNat 0
theorem goalP_len (c : Int) (sl : List Nat) : (goalP c sl).length ≤ 4 := by
  unfold goalP
  have h0 : 0 ≤ c / 5 % 5 := Int.emod_nonneg _ (by decide)
  have h1 : c / 5 % 5 < 5 := Int.emod_lt_of_pos _ (by decide)
  simp
  omega
theorem goalP_sg {c : Int} {sl : List Nat} (h : Sgs sl) (h3 : sl.length = 3) : Sgs (goalP c sl) := fun x hx => by
  obtain ⟨k, _, rfl⟩ := List.mem_map.mp hx
  have h0 : 0 ≤ mixed c k % 5 := Int.emod_nonneg _ (by decide)
  have h1 : mixed c k % 5 < 5 := Int.emod_lt_of_pos _ (by decide)
  exact sgs_getD (sgs_some5 h h3) (by show _ < 5; omega)
def spotP0 (c : Int) (sl : List Nat) : List Nat := (List.range (c / 5 % 8).toNat).map fun k => (some5 sl).getD (mixed (c / 40) k / 7 % 5).toNat 0
theorem spotP0_len (c : Int) (sl : List Nat) : (spotP0 c sl).length ≤ 7 := by
  unfold spotP0
  have h0 : 0 ≤ c / 5 % 8 := Int.emod_nonneg _ (by decide)
  have h1 : c / 5 % 8 < 8 := Int.emod_lt_of_pos _ (by decide)
  simp
  omega
theorem spotP0_sg {c : Int} {sl : List Nat} (h : Sgs sl) (h3 : sl.length = 3) : Sgs (spotP0 c sl) := fun x hx => by
  obtain ⟨k, _, rfl⟩ := List.mem_map.mp hx
  have h0 : 0 ≤ mixed (c / 40) k / 7 % 5 := Int.emod_nonneg _ (by decide)
  have h1 : mixed (c / 40) k / 7 % 5 < 5 := Int.emod_lt_of_pos _ (by decide)
  exact sgs_getD (sgs_some5 h h3) (by show _ < 5; omega)
def spotP (c : Int) (sl gl : List Nat) : List Nat := if c / 40 % 3 = 1 then cutD (spotP0 c sl) none (some 4) ++ gl else spotP0 c sl
theorem Sgs.app {a b : List Nat} (h : Sgs a) (k : Sgs b) : Sgs (a ++ b) := fun c hc => (List.mem_append.mp hc).elim (h c) (k c)
theorem spotP_sg {c : Int} {sl gl : List Nat} (h : Sgs sl) (h3 : sl.length = 3) (hg : Sgs gl) : Sgs (spotP c sl gl) := by
  unfold spotP
  split
  · exact Sgs.app (fun x hx => spotP0_sg h h3 x (mem_cutD hx)) hg
  · exact spotP0_sg h h3
theorem spotP_len (c : Int) (sl gl : List Nat) : (spotP c sl gl).length ≤ 7 + gl.length := by
  have := spotP0_len c sl
  unfold spotP
  split
  · rw [List.length_append]
    have := len_cutD (spotP0 c sl) none (some 4)
    omega
  · omega
def manyT (c : Int) : Int := ([1, 2, 2, 3, 5] : List Int).getD (c % 5).toNat 0
theorem manyT_b (c : Int) : 0 < manyT c ∧ manyT c ≤ 5 := by
  have h0 : 0 ≤ c % 5 := Int.emod_nonneg _ (by decide)
  have h1 : c % 5 < 5 := Int.emod_lt_of_pos _ (by decide)
  unfold manyT
  generalize c % 5 = i at *
  have : i = 0 ∨ i = 1 ∨ i = 2 ∨ i = 3 ∨ i = 4 := by omega
  rcases this with z | z | z | z | z <;> subst z <;> decide
end LM

set_option Elab.async false
set_option linter.all false
set_option maxRecDepth 100000
set_option maxHeartbeats 2000000
/-! DL16: type(x) != T. -/
namespace DL
open PySem PySem.Spec PyProof.Rows L2
theorem slot_type_ne : Slot "type" (cmpInfo .NotEq).2.1 "object.__ne__" :=
  .of (owner := "object") (n := "__ne__") (by rw [typeLookup_type, builtinLookup_eq_fast]; kernel_rfl) (by decide +kernel) (by decide +kernel) (by decide +kernel)
    (by first | exact .inl (by decide +kernel) | exact .inr (by decide +kernel)) (by rw [isSubtype_type]; kernel_rfl)
theorem slot_type_ne_refl : Slot "type" (cmpInfo .NotEq).2.2 "object.__ne__" :=
  .of (owner := "object") (n := "__ne__") (by rw [typeLookup_type, builtinLookup_eq_fast]; kernel_rfl) (by decide +kernel) (by decide +kernel) (by decide +kernel)
    (by first | exact .inl (by decide +kernel) | exact .inr (by decide +kernel)) (by rw [isSubtype_type]; kernel_rfl)
theorem slot_type_eq0 : Slot "type" "__eq__" "object.__eq__" := TypeEq.slot_type_eq
section
variable {prog : Program} {w : World} {A : Around} {E : Value → Shared → Prop} {s : Shared}
theorem ne_type_same {X : String} {Q : Fin → Shared → Prop} (hX : ∀ s' : Shared, s'.TypeIs (.type X) "type") (h : Q (.done (.ret (.bool false))) s) :
    wpAny (model prog w) A (Builtin.«object.__ne__» ⟨[.type X, .type X], []⟩) Q E s := by
  unfold Builtin.«object.__ne__»
  refine wpAny_bind (wpAny_of_eq (a := (Value.type X, [Value.type X])) rfl ?_)
  try dsimp only
  refine wpAny_bind (wpAny_cRoomFor_or (.inl rfl) ?_)
  refine wpAny_bind (wpAny_callSpecialIfBound?_slot (hX s) slot_type_eq0 (call_gives slot_type_eq0 (hX s) F.entry_object_eq (F.args_object_eq_2 _ _) (TypeEq.object_eq_same rfl (by simp)) ?_))
  show wpAny _ _ _ _ _ _
  try dsimp only
  refine wpAny_bind (wpAny_truthy_bool ?_)
  exact wpAny_pure h
theorem ne_type_other {X Y : String} {Q : Fin → Shared → Prop} (hX : ∀ s' : Shared, s'.TypeIs (.type X) "type") (hne : (Value.type X == Value.type Y) = false) (h : Q (.done (.ret .notImplemented)) s) :
    wpAny (model prog w) A (Builtin.«object.__ne__» ⟨[.type X, .type Y], []⟩) Q E s := by
  unfold Builtin.«object.__ne__»
  refine wpAny_bind (wpAny_of_eq (a := (Value.type X, [Value.type Y])) rfl ?_)
  try dsimp only
  refine wpAny_bind (wpAny_cRoomFor_or (.inl rfl) ?_)
  refine wpAny_bind (wpAny_callSpecialIfBound?_slot (hX s) slot_type_eq0 (call_gives slot_type_eq0 (hX s) F.entry_object_eq (F.args_object_eq_2 _ _) (TypeEq.object_eq_other rfl hne) ?_))
  show wpAny _ _ _ _ _ _
  try dsimp only
  exact wpAny_pure h
theorem call_ne_type_same {X : String} {Q : Value → Shared → Prop} (hX : ∀ s' : Shared, s'.TypeIs (.type X) "type") (h : Q (.bool false) s) : wpAny (model prog w) A (call (.builtin "object.__ne__") [.type X, .type X]) Q E s :=
  wpAny_call_entry slot_type_ne (hX s) F.cmpEntry_ne (ne_type_same hX ⟨_, rfl, h⟩) (F.cmpArgs_ne _ _)
theorem call_ne_type_other {X Y : String} {Q : Value → Shared → Prop} (hX : ∀ s' : Shared, s'.TypeIs (.type X) "type") (hne : (Value.type X == Value.type Y) = false) (h : Q .notImplemented s) : wpAny (model prog w) A (call (.builtin "object.__ne__") [.type X, .type Y]) Q E s :=
  wpAny_call_entry slot_type_ne (hX s) F.cmpEntry_ne (ne_type_other hX hne ⟨_, rfl, h⟩) (F.cmpArgs_ne _ _)
theorem rich_ne_decline {M : Model} {a b : Value} {T id : String} {k : Bool} {Q : Value → Shared → Prop} (ha : ∀ s' : Shared, s'.TypeIs a T) (hb : ∀ s' : Shared, s'.TypeIs b T)
    (h1 : Slot T (cmpInfo .NotEq).2.1 id) (h2 : Slot T (cmpInfo .NotEq).2.2 id) (hv : [a, b].any Value.onHeap = false) (hk : isSame a b = pure k)
    (hc : wpAny M A (call (.builtin id) [a, b]) (fun v s₁ => v = .notImplemented ∧ wpAny M A (call (.builtin id) [b, a]) (fun v s₂ => v = .notImplemented ∧ Q (.bool (!k)) s₂) E s₁) E s) :
    wpAny M A (richCompare .NotEq a b) Q E s := by
  rcases hi : cmpInfo CmpOp.NotEq with ⟨sym, f, r⟩
  rw [hi] at h1 h2
  simp only [richCompare, hi, (ha s).oneThing_none]
  try with_reducible refine wpAny_holding ?_
  refine wpAny_bind (wpAny_cRoomFor_or (.inl hv) ?_)
  refine wpAny_bind (wpAny_typeOf (ha s) (wpAny_bind (wpAny_typeOf (hb s) ?_)))
  simp only [bne_self_eq_false, Bool.false_eq_true, if_false, pure_bind, Bool.not_false, if_true]
  refine wpAny_bind (m := tryCompare a _ b) (wpAny_tryCompare_declines (ha s) h1 (wpAny_mono hc (fun v s₁ h₁ => ⟨h₁.1, ?_⟩) fun _ _ x => x))
  refine wpAny_bind (m := tryCompare b _ a) (wpAny_tryCompare_declines (hb s₁) h2 (wpAny_mono h₁.2 (fun v s₂ h₂ => ⟨h₂.1, ?_⟩) fun _ _ x => x))
  refine wpAny_bind (wpAny_rule (wpAny_bind (wpAny_of_eq hk (wpAny_pure h₂.2))))
theorem ne_tys {X Y : String} {Q : Value → Shared → Prop} (hX : ∀ s' : Shared, s'.TypeIs (.type X) "type") (hY : ∀ s' : Shared, s'.TypeIs (.type Y) "type") (h : Q (.bool (!decide (X = Y))) s) : wpAny (model prog w) A (compareOp .NotEq (.type X) (.type Y)) Q E s := by
  show wpAny _ A (richCompare .NotEq _ _) Q E s
  by_cases e : X = Y
  · subst e
    rw [decide_eq_true rfl] at h
    exact wpAny_richCompare_same (T := "type") (hX s) (hX s) slot_type_ne (call_ne_type_same hX ⟨(by intro e; cases e), h⟩)
  · rw [decide_eq_false e] at h
    have n1 : (Value.type X == Value.type Y) = false := beq_eq_false_iff_ne.mpr fun z => e (Value.type.inj z)
    have n2 : (Value.type Y == Value.type X) = false := beq_eq_false_iff_ne.mpr fun z => e (Value.type.inj z).symm
    exact rich_ne_decline (T := "type") (k := false) hX hY slot_type_ne slot_type_ne_refl rfl (by rw [isSame_plain rfl, n1]) (call_ne_type_other hX n1 ⟨rfl, call_ne_type_other hY n2 ⟨rfl, h⟩⟩)
end
section
variable {X : Cx} {T : List Addr}
def rNeTy : R2 := fun x y H Q => ∃ m n, x = .ty m ∧ y = .ty n ∧ tyIs m = true ∧ tyIs n = true ∧ Q (.bl (!decide (m = n))) H
theorem op_neTy : OpR X (compareOp .NotEq) rNeTy := by
  intro pins s σ H x y v u Q I rx ry h
  obtain ⟨m, n, rfl, rfl, h1, h2, q⟩ := h
  cases (show v = Value.type m from rx)
  cases (show u = Value.type n from ry)
  exact ne_tys (tyIs_ok h1) (tyIs_ok h2) ⟨.bl _, H, I, rfl, q⟩
theorem opd_neTy {m n : String} (h1 : tyIs m = true) (h2 : tyIs n = true) : OpD X T rNeTy (.ty m) (.ty n) (.val (.bl (!decide (m = n)))) := fun fm L O σ H Δ Q W x y tk s r1 r2 q =>
  ⟨m, n, r1.ty_of, r2.ty_of, h1, h2, q _ H Gr.refl s (.bl _)⟩
/-- by `is not` -/
theorem op_isnTy9 : OpR X (compareOp .IsNot) rNeTy := by
  intro pins s σ H x y v u Q I rx ry h
  obtain ⟨m, n, rfl, rfl, h1, h2, q⟩ := h
  cases (show v = Value.type m from rx)
  cases (show u = Value.type n from ry)
  by_cases e : m = n
  · subst e
    exact wpAny_isNot_self rfl ⟨.bl false, H, I, rfl, by simpa using q⟩
  · exact wpAny_isNot_other rfl (fun z => e (Value.type.inj z)) ⟨.bl true, H, I, rfl, by simpa [e] using q⟩
end
end DL

set_option Elab.async false
set_option linter.all false
set_option maxRecDepth 100000
set_option maxHeartbeats 2000000
/-! DL17: instances: attributes read and stored. -/
namespace DL
open PySem PySem.Spec PyProof.Rows L2
/-- the attribute f of an instance that is data -/
def insG (ns : List Str) (ds : List Dt) (f : Str) : Option Dt := (ns.zip ds).lookup f
/-- the attribute f stored -/
def putI (f : Str) (d : Dt) : List (Str × Dt) → List (Str × Dt)
  | [] => [(f, d)]
  | (g, x) :: r => if g = f then (g, d) :: r else (g, x) :: putI f d r
theorem lookup_rp {K : PySem.W.Frag} {F : Hp} {f : Str} {d : Dt} : ∀ {kvs : List (Str × V)} {ds : List Dt}, (∀ (i : Nat) (x : Str × V) (d : Dt), kvs[i]? = some x → ds[i]? = some d → Rp K F x.2 d) → ((kvs.map (·.1)).zip ds).lookup f = some d → ∃ v, kvs.lookup f = some v ∧ Rp K F v d
  | [], _, _, h => by cases h
  | _ :: _, [], _, h => by cases h
  | (g, x) :: r, e :: ds, hi, h => by
    rw [List.map_cons, List.zip_cons_cons] at h
    by_cases z : (f == g) = true
    · rw [List.lookup_cons, z] at h
      cases h
      exact ⟨x, by rw [List.lookup_cons, z], hi 0 (g, x) _ rfl rfl⟩
    · have z : (f == g) = false := by cases q : (f == g) with
        | true => exact absurd q z
        | false => rfl
      rw [List.lookup_cons, z] at h
      obtain ⟨v, hv, rv⟩ := lookup_rp (kvs := r) (ds := ds) (fun i x d a b => hi (i + 1) x d (by simpa using a) (by simpa using b)) h
      exact ⟨v, by rw [List.lookup_cons, z]; exact hv, rv⟩
theorem KRp.cons {κ : Type} {K : PySem.W.Frag} {F : Hp} {k : κ} {v : V} {d : Dt} {kvs : List (κ × V)} {kds : List (κ × Dt)} (hv : Rp K F v d) (h : KRp K F kvs kds) : KRp K F ((k, v) :: kvs) ((k, d) :: kds) := ⟨by rw [List.map_cons, List.map_cons, h.keys], .cons hv h.vals⟩
theorem KRp.uncons {κ : Type} {K : PySem.W.Frag} {F : Hp} {k : κ} {d : Dt} {kvs : List (κ × V)} {kds : List (κ × Dt)} (h : KRp K F kvs ((k, d) :: kds)) : ∃ v r, kvs = (k, v) :: r ∧ Rp K F v d ∧ KRp K F r kds := by
  cases kvs with
  | nil => have := h.keys; cases this
  | cons p r =>
    obtain ⟨g, x⟩ := p
    have hk := h.keys
    rw [List.map_cons, List.map_cons] at hk
    injection hk with h1 h2
    cases (show g = k from h1)
    obtain ⟨v, r', e, rv, ra⟩ := (show RpA K F (x :: r.map (·.2)) (d :: kds.map (·.2)) from h.vals).uncons
    injection e with e1 e2
    subst e1; subst e2
    exact ⟨x, r, rfl, rv, h2, ra⟩
theorem putF_rp {K : PySem.W.Frag} {F : Hp} {f : Str} {v : V} {d : Dt} (hv : Rp K F v d) : ∀ {kds : List (Str × Dt)} {kvs : List (Str × V)}, KRp K F kvs kds → KRp K F (putF f v kvs) (putI f d kds)
  | [], kvs, h => by
    have : kvs = [] := by have := h.keys; simpa using this
    subst this
    exact h.cons hv
  | (g, x) :: r, kvs, h => by
    obtain ⟨y, kr, rfl, ry, hr⟩ := h.uncons
    show KRp K F (if g = f then (g, v) :: kr else (g, y) :: putF f v kr) (if g = f then (g, d) :: r else (g, x) :: putI f d r)
    by_cases z : g = f
    · rw [if_pos z, if_pos z]; exact hr.cons hv
    · rw [if_neg z, if_neg z]; exact (putF_rp hv hr).cons ry
section
variable {X : Cx} {T : List Addr} {Δ : DEnv} {a b : Expr} {d : Dt} {pos : Pos} {P : DE}
theorem pd_fld {C : Addr} {ns : List Str} {ds : List Dt} {f : Str} (c : Cls X.K C) (n : NoAttr X.K C f) (ha : PD X T Δ a (.ins C ns ds)) (h : insG ns ds f = some d) (hb : attributeBase a f X.env (eval a X.env) = eval a X.env := by rfl) : PD X T Δ (.Attribute a f pos) d :=
  .of (pe_fld canE_ok hb) fun fm L O σ H Q W tk s q => ha.run fm L O σ H _ W tk s fun x H1 g1 s1 r1 => by
    cases r1 with
    | @ins p _ dx kvs _ _ hp hk hl hi =>
      have h' : ((kvs.map (·.1)).zip ds).lookup f = some d := by rw [hk]; exact h
      obtain ⟨v, hv, rv⟩ := lookup_rp hi h'
      exact ⟨p, C, dx, kvs, v, rfl, (mask_some hp).1, c, n, hv, q v H1 g1 s1 rv⟩
/-- self.f = e, self one's own -/
theorem psd_fset (i : Nat) {x : Str} {p1 pos' : Pos} {l C : Addr} {br : Bool} {fs : List (Str × Dt)} {f : Str} (c : Cls X.K C) (n : NoAttr X.K C f) (hi : Δ[i]? = some (some (.own l br (.ins C fs)))) (hv : PD X T Δ b d) (hz : fs.length < 1000) (h : P.nx (Δ.set i (some (.own l br (.ins C (putI f d fs))))))
    (hN : X.N[i]? = some x := by rfl) (hvs : Vis X.env.scope x := by first | exact Or.inl rfl | exact Or.inr (Or.inl rfl) | exact Or.inr (Or.inr rfl)) (hd : (x == ("__debug__" : Str)) = false := by decide) (hcd : (x == ("__classdict__" : Str)) = false := by decide)
    (hs : swapsWith b (some (.Attribute (.Name x p1) f pos')) pos.line X.env = pure false := by rfl) : PSD X T Δ (.Assign [.Attribute (.Name x p1) f pos'] b pos) P :=
  .of (ps_fld (slot_ref i hN hvs hd hcd) canE_ok hs) fun fm L O σ H D W tk s em => hv.run fm L O σ H _ W tk s fun v H1 g1 s1 r1 => by
    obtain ⟨h1, h2, dx, kvs, hl, kr⟩ := s1.ow hi
    refine ⟨.ref l, h1, l, C, dx, kvs, rfl, hl, c, n, by rw [kr.len]; exact hz, em.nx O σ _ _ h ?_⟩
    exact s1.own_upd hi ⟨dx, _, upd_same, putF_rp r1 kr⟩
end
end DL

set_option Elab.async false
set_option linter.all false
set_option maxRecDepth 100000
set_option maxHeartbeats 2000000
/-! DL18: an instance made; methods. -/
namespace DL
open PySem PySem.Spec L2
section
variable {X : Cx} {CX : CXT} {k : Nat} {f C : Addr} {fd : FuncData} {ps : List Str} {sp : Sp} {E : St → XK} {x m : Str} {p pos apos : Pos} {e o : Expr} {es : List Expr} {ta : TE} {t : TA}
theorem run_makeS {pins : List (Addr × Obj)} {σ : St} {H : Hp} {s : Shared} {Q : VK} {us : List Value} {vs : List V} (M : Mk X.K C f) (F : FnOk X.prog X.w X.K X.mg X.base CX k f fd ps sp) (hr : Room (k + 1) X.A) (hb : Binds X.K fd ps [])
    (hx : PassesAt CX X σ (E σ)) (I : Inv X pins σ H s) (r : Vals vs us)
    (h : ∀ x dx, H x = none → H dx = none → dx ≠ x → sp (.ref x :: vs) (upd (upd H dx (.own x)) x (.ins C dx [])) (fun v H2 => v = .non ∧ Q (.ref x) H2) (E σ)) :
    wpAny (model X.prog X.w) X.A (call (.ref C) us) (EP X pins σ Q) X.xe s := by
  have hq := h (s.heap.objs.size + 1) s.heap.objs.size (I.hok.fresh (Nat.le_succ _)) (I.hok.fresh (Nat.le_refl _)) (Nat.ne_of_lt (Nat.lt_succ_self _))
  have I2 := Inv.made (C := C) I
  have r2 : Vals (V.ref (s.heap.objs.size + 1) :: vs) (Value.ref (s.heap.objs.size + 1) :: us) := .cons rfl r
  have hl : (Value.ref (s.heap.objs.size + 1) :: us).length = ps.length := by
    have e := r2.length
    rw [F.len _ _ _ _ hq] at e
    exact e.symm
  have hl2 : ((Value.ref (s.heap.objs.size + 1) :: us) ++ []).length = ps.length := by rw [List.append_nil]; exact hl
  have bd := hb _ (Value.ref (s.heap.objs.size + 1) :: us) I2.kIn hl2
  rw [List.append_nil] at bd
  refine wpAny_call (make_map (f := f) I.kIn M.makes M.init (beq_iff_eq.mp M.fn) (codeAny_mono (F.run _ X.stack _ _ ⟨Value.ref (s.heap.objs.size + 1) :: us, []⟩ (Value.ref (s.heap.objs.size + 1) :: us) _ _ (E σ) (hr.make C us [])
    (I2.env0.make C us []) bd r2 hq) fun r s' hq' => ?_))
  cases r with
  | error e => exact hx pins _ _ e s' I2 hq'
  | ok fl =>
    cases fl with
    | ret u =>
      obtain ⟨v, H', I3, rv, ev, q3⟩ := I2.after hq'
      subst ev
      exact ⟨rv, ⟨V.ref (s.heap.objs.size + 1), H', I3, rfl, q3⟩⟩
    | next => exact False.elim hq'
    | brk => exact False.elim hq'
    | cont => exact False.elim hq'
def tMakeS (C : Addr) (sp : Sp) (E : St → XK) (t : TA) : TE := fun σ H Q => t σ H fun vs H1 => ∀ x dx, H1 x = none → H1 dx = none → dx ≠ x →
  sp (.ref x :: vs) (upd (upd H1 dx (.own x)) x (.ins C dx [])) (fun v H2 => v = .non ∧ Q (.ref x) H2) (E σ)
theorem pe_makeS (M : Mk X.K C f) (F : FnOk X.prog X.w X.K X.mg X.base CX k f fd ps sp) (hr : Room (k + 1) X.A) (hg : Gl X x) (hm : X.mg x = some (.ref C)) (hb : Binds X.K fd ps []) (hx : ∀ σ, PassesAt CX X σ (E σ))
    (ha : PA X (e :: es) t) (hdb : (x == ("__debug__" : Str)) = false := by decide) (he : starEach (e :: es) X.env = (false, eval e X.env) :: starEach es X.env := by rfl) (hpl : (backTo pos (starEach es X.env)).any (·.1) = false := by rfl) :
    PE X (.Call (.Name x p) (e :: es) [] pos) (tMakeS C sp E t) := by
  refine ⟨fun pins s σ H Q I h => ?_⟩
  refine wpAny_Call_Name_kw (ld_glob I hg hm ?_ hdb)
  refine PySem.W.callWith_K (h₀ := X.base) I.ok.mod.kin M.kp (thn (ha.run pos pins s σ H _ I h) fun us s1 ⟨vs, H1, I1, r, q⟩ => ⟨I1.kIn, ?_⟩) he hpl
  exact run_makeS M F hr hb (hx σ) I1 r q
end
/-! ### defs that change their first argument or raise -/
inductive MR where
  | ok (d : Dt) (o : Ow) | exc (C : Addr)
def spI (T : List Addr) (K : PySem.W.Frag) (n : Nat) (Fn : Ow → List Dt → MR → Prop) : Sp := fun vs H Q E => vs.length = n ∧ ∃ O l o ds r, Pre T O H ∧ l ∈ O ∧ l ∉ T ∧ OwAt K (mask H O) H l o ∧ vs[0]? = some (.ref l) ∧ RpA K (mask H O) (vs.eraseIdx 0) ds ∧ Fn o ds r ∧
  match r with
  | .ok d o' => ∀ v H2, (∀ a u, a ∉ T → a ≠ l → H a = some u → H2 a = some u) → TabOk T H2 → OwAt K (mask H2 O) H2 l o' → Rp K (mask H2 O) v d → Q v H2
  | .exc C => ∀ H2, (∀ a u, a ∉ T → a ≠ l → H a = some u → H2 a = some u) → TabOk T H2 → (∃ u, H2 l = some u) → E (.ref C) none H2
abbrev FnI (P : Program) (w : World) (K : PySem.W.Frag) (mg : Str → Option Value) (base : Heap) (T : List Addr) (k : Nat) (f : Addr) (fd : FuncData) (ps : List Str) (Fn : Ow → List Dt → MR → Prop) : Prop := FnOk P w K mg base (L2.CX P w) k f fd ps (spI T K ps.length Fn)
def MR.de (l : Addr) : MR → DE
  | .ok d o' => deB 0 l d o'
  | .exc C => { ex := fun Δ' C' => C' = C ∧ ∃ br o', Δ'[0]? = some (some (.own l br o')) }
section
variable {P : Program} {w : World} {K : PySem.W.Frag} {mg : Str → Option Value} {base : Heap} {T : List Addr}
theorem fn_okI {x qual : Str} {st : Stmt} {f : Addr} {fd : FuncData} {N ps : List Str} {k : Nat} {Fn : Ow → List Dt → MR → Prop} (F : Fun K x qual st f fd) (S : FnScope N ps (defScope st)) (hNp : ps.length ≤ N.length)
    (hbody : ∀ (cdv : Value) (A : Around) (outer : List PySem.Env) (s : Shared) (H : Hp) (E : XK) (l : Addr) (o : Ow) (ds : List Dt) (r : MR), Room k (A.deeper (PyProof.Rows.envOfC qual (defScope st) s.heap.objs.size f cdv)) → ds.length + 1 = ps.length → Fn o ds r →
      PSsD (cxOf (L2.CX P w) P w K mg base N qual (defScope st) f cdv A outer s H E) T (startB N 0 l o ds) (defBody st) (r.de l)) : FnI P w K mg base T (k + 1) f fd ps Fn := by
  refine F.okX S (fun vs H Q E h => h.1) (fun cdv A outer s H vs Q E hr h => ?_)
  obtain ⟨hl, O, l, o, ds, r, hp, hlO, hlT, ow, ej, ra, hF, ck⟩ := h
  refine ⟨_, canSs_ok, ?_⟩
  have hj := (List.getElem?_eq_some_iff.mp ej).1
  have hlen : ds.length + 1 = ps.length := by
    have := ra.len
    rw [List.length_eraseIdx, if_pos hj] at this
    omega
  refine (hbody cdv A outer s H E l o ds r hr hlen hF).run ⟨O, [l], H, []⟩ [] O _ H _ (fun cls d _ H' => E cls d H') (takes_of rfl rfl rfl rfl) (sta_startB hp (by omega) (by omega) hlO hlT ow ej ra) ?_
  cases r with
  | ok d o' =>
    have fin : ∀ {O' : List Addr} {σ' : St} {H' : Hp} {Δ' : DEnv} {v : V}, (∃ br, Δ'[0]? = some (some (.own l br o'))) → Sta K T ⟨O, [l], H, []⟩ [] O' σ' H' Δ' → Rp K (mask H' O') v d → Q v H' := fun {O' σ' H' Δ' v} h s' rv => by
      obtain ⟨br, h⟩ := h
      obtain ⟨_, hl', ow'⟩ := s'.ow h
      have le : Le (mask H' O') (mask H' O) := mask_sub s'.o0
      exact ck v H' (fun a u h1 h2 e => s'.keep a u e h1 (fun z => h2 (List.mem_singleton.mp z)) fun _ z => nomatch z) s'.tab (ow'.mono le fun u hu => hu) (rv.mono le)
    refine ⟨fun O' σ' H' Δ' h s' => ?_, fun O' σ' H' Δ' v d' h s' rv => ?_, fun _ _ _ _ _ _ h => h.elim, fun _ _ _ _ h => h.elim, fun _ _ _ _ h => h.elim, fun _ _ _ _ _ h => h.elim⟩
    · obtain ⟨rfl, h⟩ := h
      exact fin h s' .non
    · obtain ⟨rfl, h⟩ := h
      exact fin h s' rv
  | exc C =>
    refine ⟨fun _ _ _ _ h => h.elim, fun _ _ _ _ _ _ h => h.elim, fun _ _ _ _ _ _ h => h.elim, fun _ _ _ _ h => h.elim, fun _ _ _ _ h => h.elim, fun O' σ' H' Δ' C' h s' => ?_⟩
    obtain ⟨rfl, br, o', h⟩ := h
    obtain ⟨_, hl', ow'⟩ := s'.ow h
    obtain ⟨u, hu, _⟩ := ow'.there
    exact ck H' (fun a u h1 h2 e => s'.keep a u e h1 (fun z => h2 (List.mem_singleton.mp z)) fun _ z => nomatch z) s'.tab ⟨u, hu⟩
end
end DL

set_option Elab.async false
set_option linter.all false
set_option maxRecDepth 100000
set_option maxHeartbeats 2000000
/-! DL19: calls of classes and of methods, in data. -/
namespace DL
open PySem PySem.Spec L2
section
variable {X : Cx} {CX : CXT} {k : Nat} {f C : Addr} {fd : FuncData} {ps : List Str} {sp : Sp} {E : St → XK} {x m : Str} {p pos apos : Pos} {e o : Expr} {es : List Expr} {ta : TE} {t : TA}
def tMethS (C : Addr) (m : Str) (sp : Sp) (E : St → XK) (ta : TE) (t : TA) : TE := fun σ H Q => ta σ H fun x H1 => ∃ a dx fs, x = .ref a ∧ H1 a = some (.ins C dx fs) ∧ fs.lookup m = none ∧
  t σ H1 fun vs H2 => sp (x :: vs) H2 Q (E σ)
theorem pe_methS {pl : Sem Bool} (he : PE X o ta) (c : Cls X.K C) (hm : Meth X.K C m f) (F : FnOk X.prog X.w X.K X.mg X.base CX k f fd ps sp) (hr : Room k X.A) (hb : Binds X.K fd ps []) (hx : ∀ σ, PassesAt CX X σ (E σ)) (ha : PA X (e :: es) t)
    (hst : starEach (e :: es) X.env = (false, eval e X.env) :: starEach es X.env := by rfl) (hpl : (backTo pos (starEach es X.env)).any (·.1) = false := by rfl)
    (ht : eval (.Call (.Attribute o m apos) (e :: es) [] pos) X.env = (do
      let ov ← eval o X.env
      standAt apos.atName
      let (f, first) ← holding [ov] (getMethod ov m pl)
      callWith pos f first (backTo pos (starEach (e :: es) X.env)) (backToKw pos (keywordEach [] X.env))) := by rfl) :
    PE X (.Call (.Attribute o m apos) (e :: es) [] pos) (tMethS C m sp E ta t) := by
  refine ⟨fun pins s σ H Q I h => ?_⟩
  refine PySem.W.methodCall_KW (pl := pl) (thn (he.run pins s σ H _ I h) fun u s1 ⟨x, H1, I1, rx, a, dx, fs, ex, ea, l, q⟩ => ?_) ht
  subst ex
  obtain rfl : u = Value.ref a := rx
  refine getmeth_ok I1 ea c hm l ?_
  refine PySem.W.callWith_K (first := [.ref a]) (h₀ := X.base) I.ok.mod.kin hm.kp (thn (ha.run pos pins s1 σ H1 _ I1 q) fun us s2 ⟨vs, H2, I2, r, q2⟩ => ⟨I2.kIn, ?_⟩) hst hpl
  exact run_fnS (us := .ref a :: us) (vs := .ref a :: vs) F hr hb (hx σ) I2 (.cons rfl r) q2
theorem pe_meth0S {pl : Sem Bool} (he : PE X o ta) (c : Cls X.K C) (hm : Meth X.K C m f) (F : FnOk X.prog X.w X.K X.mg X.base CX k f fd ps sp) (hr : Room k X.A) (hb : Binds X.K fd ps []) (hx : ∀ σ, PassesAt CX X σ (E σ))
    (ht : eval (.Call (.Attribute o m apos) [] [] pos) X.env = (do
      let ov ← eval o X.env
      standAt apos.atName
      let (f, first) ← holding [ov] (getMethod ov m pl)
      callWith pos f first (backTo pos (starEach [] X.env)) (backToKw pos (keywordEach [] X.env))) := by rfl) :
    PE X (.Call (.Attribute o m apos) [] [] pos) (tMethS C m sp E ta tNil) := by
  refine ⟨fun pins s σ H Q I h => ?_⟩
  refine PySem.W.methodCall_KW (pl := pl) (thn (he.run pins s σ H _ I h) fun u s1 ⟨x, H1, I1, rx, a, dx, fs, ex, ea, l, q⟩ => ?_) ht
  subst ex
  obtain rfl : u = Value.ref a := rx
  refine getmeth_ok I1 ea c hm l ?_
  exact PySem.W.callWith_K0 (first := [.ref a]) I1.kIn hm.kp (run_fnS (us := [.ref a]) (vs := [.ref a]) F hr hb (hx σ) I1 (.cons rfl .nil) q)
end
/-- a method whose self is data -/
structure CalleeM (P : Program) (w : World) (K : PySem.W.Frag) (mg : Str → Option Value) (base : Heap) (T : List Addr) (C : Addr) (m : Str) (k : Nat) (ps : List Str) (Fn : List Dt → Res → Prop) : Prop where
  ex : Cls K C ∧ ∃ f fd, FnD P w K mg base T k f fd ps Fn ∧ Meth K C m f ∧ Binds K fd ps []
/-- a method that changes its self -/
structure CalleeI (P : Program) (w : World) (K : PySem.W.Frag) (mg : Str → Option Value) (base : Heap) (T : List Addr) (C : Addr) (m : Str) (k : Nat) (ps : List Str) (Fn : Ow → List Dt → MR → Prop) : Prop where
  ex : Cls K C ∧ ∃ f fd, FnI P w K mg base T k f fd ps Fn ∧ Meth K C m f ∧ Binds K fd ps []
/-- a class by its __init__ -/
structure CalleeC (P : Program) (w : World) (K : PySem.W.Frag) (mg : Str → Option Value) (base : Heap) (T : List Addr) (x : Str) (C : Addr) (k : Nat) (ps : List Str) (Fn : Ow → List Dt → MR → Prop) : Prop where
  ex : ∃ f fd, FnI P w K mg base T k f fd ps Fn ∧ Mk K C f ∧ mg x = some (.ref C) ∧ Binds K fd ps []
theorem lookup_keys {m : Str} : ∀ {fs : List (Str × V)}, m ∉ fs.map (·.1) → fs.lookup m = none
  | [], _ => rfl
  | (g, x) :: r, h => by
    rw [List.map_cons] at h
    have h1 : (m == g) = false := beq_eq_false_iff_ne.mpr fun z => h (by rw [z]; exact List.mem_cons_self)
    rw [List.lookup_cons, h1]
    exact lookup_keys fun z => h (List.mem_cons_of_mem _ z)
section
variable {X : Cx} {T : List Addr} {Δ : DEnv} {e o : Expr} {es : List Expr} {d : Dt} {ds : List Dt} {r : Res} {pos p apos : Pos}
theorem pr_meth {C : Addr} {m : Str} {k : Nat} {ps ns : List Str} {dd : List Dt} {Fn : List Dt → Res → Prop} (G : CalleeM X.prog X.w X.K X.mg X.base T C m k ps Fn) (hr : Room k X.A) (ho : PD X T Δ o (.ins C ns dd)) (hm : m ∉ ns) (ha : PAD X T Δ (e :: es) ds) (hF : Fn (.ins C ns dd :: ds) r) (hlen : ds.length + 1 = ps.length := by rfl)
    {pl : Sem Bool} (hst : starEach (e :: es) X.env = (false, eval e X.env) :: starEach es X.env := by rfl) (hpl : (backTo pos (starEach es X.env)).any (·.1) = false := by rfl)
    (ht : eval (.Call (.Attribute o m apos) (e :: es) [] pos) X.env = (do
      let ov ← eval o X.env
      standAt apos.atName
      let (f, first) ← holding [ov] (getMethod ov m pl)
      callWith pos f first (backTo pos (starEach (e :: es) X.env)) (backToKw pos (keywordEach [] X.env))) := by rfl) : PR X T Δ (.Call (.Attribute o m apos) (e :: es) [] pos) r := by
  obtain ⟨c, f, fd, h1, h2, h3⟩ := G.ex
  exact ⟨fun fm L O σ H Q W tk s q pins sh I => (pe_methS (E := WE W) (pl := pl) canE_ok c h2 h1 hr h3 (fun σ => passAt tk σ) canA_ok hst hpl ht).run pins sh σ H Q I (ho.run fm L O σ H _ W tk s fun v H1 g1 s1 r1 => by
    cases r1 with
    | @ins a _ dx kvs _ _ hp hk hl hi =>
      refine ⟨a, dx, kvs, rfl, (mask_some hp).1, lookup_keys (by rw [hk]; exact hm), ha.run fm L O σ H1 _ W tk s1 fun vs H2 g2 s2 ra => ?_⟩
      have rs : Rp X.K (mask H2 O) (.ref a) (.ins C ns dd) := (Rp.ins hp hk hl hi).mono (g2.mask s2.tO)
      exact ⟨by rw [List.length_cons, ra.len]; exact hlen, O, .ins C ns dd :: ds, r, s2.pre, .cons rs ra, hF, CK.of s2 (q.back s s2 (g1.trans g2))⟩)⟩
theorem pr_meth0 {C : Addr} {m : Str} {k : Nat} {ps ns : List Str} {dd : List Dt} {Fn : List Dt → Res → Prop} (G : CalleeM X.prog X.w X.K X.mg X.base T C m k ps Fn) (hr : Room k X.A) (ho : PD X T Δ o (.ins C ns dd)) (hm : m ∉ ns) (hF : Fn [.ins C ns dd] r) (hlen : 1 = ps.length := by rfl)
    {pl : Sem Bool} (ht : eval (.Call (.Attribute o m apos) [] [] pos) X.env = (do
      let ov ← eval o X.env
      standAt apos.atName
      let (f, first) ← holding [ov] (getMethod ov m pl)
      callWith pos f first (backTo pos (starEach [] X.env)) (backToKw pos (keywordEach [] X.env))) := by rfl) : PR X T Δ (.Call (.Attribute o m apos) [] [] pos) r := by
  obtain ⟨c, f, fd, h1, h2, h3⟩ := G.ex
  exact ⟨fun fm L O σ H Q W tk s q pins sh I => (pe_meth0S (E := WE W) (pl := pl) canE_ok c h2 h1 hr h3 (fun σ => passAt tk σ) ht).run pins sh σ H Q I (ho.run fm L O σ H _ W tk s fun v H1 g1 s1 r1 => by
    cases r1 with
    | @ins a _ dx kvs _ _ hp hk hl hi =>
      exact ⟨a, dx, kvs, rfl, (mask_some hp).1, lookup_keys (by rw [hk]; exact hm), hlen, O, [.ins C ns dd], r, s1.pre, .cons (Rp.ins hp hk hl hi) .nil, hF, CK.of s1 (q.back s s1 g1)⟩)⟩
/-- self.m(), self one's own -/
theorem pm_meth0 (i : Nat) {C : Addr} {m y : Str} {k : Nat} {ps : List Str} {l : Addr} {br : Bool} {fs : List (Str × Dt)} {o' : Ow} {p1 : Pos} {Fn : Ow → List Dt → MR → Prop} (G : CalleeI X.prog X.w X.K X.mg X.base T C m k ps Fn) (hr : Room k X.A) (hi : Δ[i]? = some (some (.own l br (.ins C fs)))) (hm : m ∉ fs.map (·.1)) (hF : Fn (.ins C fs) [] (.ok d o')) (hlen : 1 = ps.length := by rfl)
    (hN : X.N[i]? = some y := by rfl) (hv : Vis X.env.scope y := by first | exact Or.inl rfl | exact Or.inr (Or.inl rfl) | exact Or.inr (Or.inr rfl)) (hd : (y == ("__debug__" : Str)) = false := by decide) (hcd : (y == ("__classdict__" : Str)) = false := by decide)
    {pl : Sem Bool} (ht : eval (.Call (.Attribute (.Name y p1) m apos) [] [] pos) X.env = (do
      let ov ← eval (.Name y p1) X.env
      standAt apos.atName
      let (f, first) ← holding [ov] (getMethod ov m pl)
      callWith pos f first (backTo pos (starEach [] X.env)) (backToKw pos (keywordEach [] X.env))) := by rfl) : PM X T Δ (.Call (.Attribute (.Name y p1) m apos) [] [] pos) d (Δ.set i (some (.own l br o'))) := by
  obtain ⟨c, f, fd, h1, h2, h3⟩ := G.ex
  exact ⟨fun fm L O σ H Q W tk s q pins sh I => (pe_meth0S (E := WE W) (pl := pl) (slot_ref i hN hv hd hcd) c h2 h1 hr h3 (fun σ => passAt tk σ) ht).run pins sh σ H Q I (by
    obtain ⟨q1, hlO, how⟩ := s.ow hi
    obtain ⟨dx, kvs, hl, kr⟩ := id how
    refine ⟨.ref l, q1, l, dx, kvs, rfl, hl, lookup_keys (by rw [kr.keys]; exact hm), hlen, O, l, .ins C fs, [], .ok d o', s.pre, hlO, (s.own i l br _ hi).1, how, rfl, .nil, hF, ?_⟩
    exact fun v H2 g t ow rv => q v H2 (s.own_call hi g t ow) rv)⟩
/-- C(e, ..): a new instance, or what its __init__ raises -/
def MR.res (C : Addr) : MR → Res
  | .ok _ o => .own o
  | .exc Ce => .exc Ce
theorem pr_make {C : Addr} {x : Str} {k : Nat} {ps : List Str} {mr : MR} {Fn : Ow → List Dt → MR → Prop} (G : CalleeC X.prog X.w X.K X.mg X.base T x C k ps Fn) (hr : Room (k + 1) X.A) (ha : PAD X T Δ (e :: es) ds) (hF : Fn (.ins C []) ds mr) (hnon : ∀ d o, mr = .ok d o → d = .non) (hlen : ds.length + 1 = ps.length := by rfl) (hg : Gl X x := by rfl) (hdb : (x == ("__debug__" : Str)) = false := by decide)
    (he : starEach (e :: es) X.env = (false, eval e X.env) :: starEach es X.env := by rfl) (hpl : (backTo pos (starEach es X.env)).any (·.1) = false := by rfl) : PR X T Δ (.Call (.Name x p) (e :: es) [] pos) (mr.res C) := by
  obtain ⟨f, fd, h1, h2, h3, h4⟩ := G.ex
  exact ⟨fun fm L O σ H Q W tk s q pins sh I => (pe_makeS (E := WE W) h2 h1 hr hg h3 h4 (fun σ => passAt tk σ) canA_ok hdb he hpl).run pins sh σ H Q I (ha.run fm L O σ H _ W tk s fun vs H1 g1 s1 r1 => by
    intro x dx nx ndx ne
    obtain ⟨xO, x0, xT, xL⟩ := s1.new_apart nx
    obtain ⟨dO, d0, dT, dL⟩ := s1.new_apart ndx
    have up : ∀ a u, H1 a = some u → (upd (upd H1 dx (.own x)) x (.ins C dx [])) a = some u := fun a u h => by
      rw [upd_ne (ne_of_none h nx), upd_ne (ne_of_none h ndx)]
      exact h
    have t0 : TabOk T (upd (upd H1 dx (.own x)) x (.ins C dx [])) := fun P hP => by
      obtain ⟨ps, e, q⟩ := s1.tab P hP
      exact ⟨ps, up _ _ e, q⟩
    have le : Le (mask H1 O) (mask (upd (upd H1 dx (.own x)) x (.ins C dx [])) (x :: O)) := Le.of_same fun a u h => by
      obtain ⟨e1, e2⟩ := mask_some h
      have n1 := ne_of_none e1 nx
      rw [mask_out fun z => (List.mem_cons.mp z).elim n1 e2]
      exact up _ _ e1
    have pre : Pre T (x :: O) (upd (upd H1 dx (.own x)) x (.ins C dx [])) := ⟨fun P hP => List.mem_cons_of_mem _ (s1.tO P hP), t0, fun a ha => by
      rcases List.mem_cons.mp ha with z | z
      · rw [z]; exact .of upd_same fun _ z => nomatch z
      · exact (s1.dom a z).keep fun u q => up a u q⟩
    have gr : ∀ {H2 : Hp}, (∀ a u, a ∉ T → a ≠ x → (upd (upd H1 dx (.own x)) x (.ins C dx [])) a = some u → H2 a = some u) → Gr T H1 H2 := fun {H2} g a u n h => g a u n (ne_of_none h nx) (up a u h)
    have nx0 : H x = none := g1.back xT nx
    refine ⟨by rw [List.length_cons, r1.len]; exact hlen, x :: O, x, .ins C [], ds, mr, pre, List.mem_cons_self, xT, ⟨dx, [], upd_same, ⟨rfl, .nil⟩⟩, rfl, r1.mono le, hF, ?_⟩
    cases mr with
    | ok d o =>
      have hd := hnon d o rfl
      subst hd
      intro v H2 g t ow rv
      refine ⟨by cases rv; rfl, ?_⟩
      have g2 := gr g
      exact q x H2 nx0 (g1.trans g2) (s.own_hide nx0 (g1.trans g2) t ow.held) ow
    | exc Ce =>
      intro H2 g t _
      have g2 := gr g
      exact q H2 (g1.trans g2) (s.gr (g1.trans g2) t))⟩
end
end DL

set_option Elab.async false
set_option linter.all false
set_option maxRecDepth 100000
set_option maxHeartbeats 2000000
/-! DL20: own errors raised, caught. -/
namespace DL
open PySem PySem.Spec L2
/-- the facts of an own error over ValueError, without an __init__ of its own -/
structure OwnExc (K : PySem.W.Frag) (mg : Str → Option Value) (x : Str) (C : Addr) : Prop where
  mgC : mg x = some (.ref C)
  ex : PySem.W.excIn K C [.type "ValueError", .type "Exception", .type "BaseException", .type "object"] "ValueError.__new__" = true
  kp : PySem.W.keepIn K (.ref C) = true
  bs : PySem.W.subIn K (.ref C) (.type "BaseException") = some true
  ty : PySem.W.typeIn K (.ref C) = some (.type "type")
section
variable {X : Cx} {T : List Addr} {Δ : DEnv} {P : DE}
theorem psd_raiseO {C : Addr} {x m : Str} {j : Nat} {p p2 pos pos' : Pos} (G : OwnExc X.K X.mg x C) (h : P.ex Δ C) (hc : X.calm = true := by rfl) (hg : Gl X x := by rfl) (hdb : (x == ("__debug__" : Str)) = false := by decide) :
    PSD X T Δ (.Raise (some (.Call (.Name x p) [.Constant (.str m) j p2] [] pos)) none pos') P :=
  ⟨fun fm L O σ H D W tk s em pins sh I => (ps_raise hc tk (pmk_own PySem.F.excBase_ValueError G.ex G.mgC G.kp (raises_own G.bs G.ty) hg hdb)).run pins sh σ H D I (em.ex O σ H Δ C h s)⟩
end
section
variable {X : Cx} {T : List Addr} {Δ : DEnv} {e : Expr}
/-- a text as a test -/
theorem ptd_truS {l : List Nat} (h : PD X T Δ e (.str l)) (hz : l.length ≤ sizeLine) (he : ∀ whole, isTrue e X.env whole = (do let v ← whole; standAt e.pos; holding [v] (truthy v)) := by intro _; rfl) : PTD X T Δ e (!l.isEmpty) :=
  .of (pt_truth canE_ok he) fun fm L O σ H Q W tk s q => h.run fm L O σ H _ W tk s fun v H2 g2 s2 r2 => by
    have ev := r2.str_of
    subst ev
    refine ⟨!l.isEmpty, ⟨by simpa [Str.length] using hz, ?_⟩, q H2 g2 s2⟩
    cases l with
    | nil => rfl
    | cons a r =>
      show true = ((((⟨(a :: r).toArray⟩ : Str).length : Nat) : Int) != 0)
      have : (⟨(a :: r).toArray⟩ : Str).length = r.length + 1 := by simp [Str.length]
      rw [this]
      symm
      exact bne_iff_ne.mpr (by omega)
end
end DL

set_option Elab.async false
set_option linter.all false
set_option maxRecDepth 100000
set_option maxHeartbeats 2000000
/-! DL21: try: body, except x as n: suite; isinstance of what is caught. -/
namespace DL
open PySem PySem.Spec L2
section
variable {X : Cx} {T : List Addr} {Δ : DEnv} {e a b c : Expr} {es : List Expr} {d d1 d2 d3 : Dt} {ds : List Dt} {r : Res} {pos p : Pos} {st : Stmt} {rest sts : List Stmt} {P : DE}
variable {K : PySem.W.Frag} {fm : Fm} {L : Lk} {O : List Addr} {σ : St} {H H' : Hp} {Q : VK} {W : WX} {D : Ends}
theorem Sta.unset (s : Sta K T fm L O σ H Δ) (i : Nat) : Sta K T fm L O (σ.set i none) H (Δ.set i none) := s.weak (by rw [List.length_set, List.length_set]; exact s.len) fun j e he => by
  by_cases hj : i = j
  · subst hj
    by_cases hi : i < Δ.length
    · rw [List.getElem?_set_self hi] at he; cases he
    · rw [List.getElem?_eq_none (by rw [List.length_set]; omega)] at he; cases he
  · rw [getset_ne hj] at he ⊢
    exact ⟨he, rfl⟩
/-- a slot is forgotten -/
theorem psd_drop (i : Nat) (h : PSsD X T (Δ.set i none) sts P) : PSsD X T Δ sts P := ⟨fun fm L O σ H D W tk s em => h.run fm L O σ H D W tk (s.weak (by rw [List.length_set]; exact s.len) fun j e he => by
  by_cases hj : i = j
  · subst hj
    by_cases hi : i < Δ.length
    · rw [List.getElem?_set_self hi] at he; cases he
    · rw [List.getElem?_eq_none (by rw [List.length_set]; omega)] at he; cases he
  · rw [getset_ne hj] at he
    exact ⟨he, rfl⟩) em⟩
/-- a thing of which only the address is told -/
def refD (a : Addr) : Dt := .opq fun _ v => v = .ref a
theorem rp_ref {F : Hp} {a : Addr} : Rp K F (.ref a) (refD a) := .opq fun _ _ => rfl
theorem Rp.ref_of {F : Hp} {v : V} {a : Addr} (h : Rp K F v (refD a)) : v = .ref a := by
  cases h with
  | opq h => exact h F (Le.refl F)
/-- an own class -/
theorem pd_cls {x : Str} {C : Addr} (hm : X.mg x = some (.ref C)) (hg : Gl X x := by rfl) (hd : (x == ("__debug__" : Str)) = false := by decide) : PD X T Δ (.Name x pos) (refD C) :=
  pd_c (pe_glob (v := .ref C) hg hm rfl hd) fun _ => rp_ref
theorem psd_retX {C : Addr} (he : PR X T Δ e (.exc C)) (h : P.ex Δ C) : PSD X T Δ (.Return (some e) pos) P :=
  .of (ps_ret canE_ok) fun fm L O σ H D W tk s em => he.run fm L O σ H _ W tk s fun H1 g1 s1 => em.ex O σ H1 Δ C h s1
theorem psd_setX (i : Nat) {C : Addr} {x : Str} {pos' : Pos} (hN : X.N.Nodup) (he : PR X T Δ e (.exc C)) (h : P.ex Δ C) (hi : X.N[i]? = some x := by rfl) (hx : Loc X.env.scope x := by first | exact Or.inl rfl | exact Or.inr rfl)
    (hs : swapsWith e (some (.Name x pos')) pos.line X.env = pure false := by rfl) (hf : X.fn x = true ∨ X.env.scope.names.lookup x = some .local := by first | exact .inl rfl | exact .inr rfl) : PSD X T Δ (.Assign [.Name x pos'] e pos) P :=
  .of (ps_set hN hi hx canE_ok hs hf) fun fm L O σ H D W tk s em => he.run fm L O σ H _ W tk s fun H1 g1 s1 => em.ex O _ H1 _ C h s1
/-- what the suite of 'except x as n' must end in: n's slot i goes -/
abbrev DE.behind (P : DE) (i : Nat) : DE := { nx := fun Δ'' => P.nx (Δ''.set i none), rt := P.rt, ro := P.ro, bk := fun Δ'' => P.bk (Δ''.set i none), ct := fun Δ'' => P.ct (Δ''.set i none) }
theorem psd_tryAs (i : Nat) {x n : Str} {cv : Value} {b₀ : Stmt} {suite body : List Stmt} {np pos' : Pos} (M : DEnv → Addr → Prop) (hN : X.N.Nodup) (hc : Names X x cv)
    (hb : ∀ (pn : List (Addr × Obj)) (xe : Value → Shared → Prop), PassesOwn (model X.prog X.w) X.A X.env xe → PSsD (X.tr pn xe) T Δ body { P with ex := M })
    (hsu : ∀ (Δ' : DEnv) (C : Addr), M Δ' C → ∃ k, PySem.W.exmOne X.K (.ref C) cv = some k ∧ (k = true → i < Δ'.length ∧ ∀ (a : Addr) (oe : Obj) (pn : List (Addr × Obj)), Zc (.ref C) none oe → (∃ vs, oe.data = .fields vs) → PSsD (X.suite a ((a, oe) :: pn)) T (Δ'.set i (some (.imm (refD a)))) (b₀ :: suite) (P.behind i)) ∧ (k = false → P.ex Δ' C))
    (hi : X.N[i]? = some n := by rfl) (hln : X.env.kindOf n = some .local := by rfl) (hs : X.stack = X.env :: X.outer := by rfl) (hf : X.env.frame = some X.env.locals := by rfl) : PSD X T Δ (.Try body [.ExceptHandler (some (.Name x np)) (some n) (b₀ :: suite) pos'] [] [] pos) P :=
  ⟨fun fm L O σ H D W tk s em pins sh I => (ps_try_as (tb := fun W' D σ H => ∀ pn xe, Takes (X.tr pn xe) W' → PassesOwn (model X.prog X.w) X.A X.env xe → canSs (X.tr pn xe) body D σ H)
      (ts := fun a cls d D σ H => ∀ oe pn, Zc cls d oe → (∃ vs, oe.data = .fields vs) → canSs (X.suite a ((a, oe) :: pn)) (b₀ :: suite) D σ H) hs hf hN hi hln hc tk
      (fun W' pn xe tk' po => ⟨fun pins s σ H D I h => h pn xe tk' po pins s I⟩) (fun a oe cls d pn hz hd => ⟨fun pins s σ H D I h => h oe pn hz hd pins s I⟩)).run pins sh σ H D I (by
    intro pn xe tk' po
    refine (hb pn xe po).run fm L O σ H D _ tk' s ⟨em.nx, em.rt, em.ro, em.bk, em.ct, fun O σ H Δ' C hM s' => ?_⟩
    obtain ⟨k, e1, h1, h2⟩ := hsu Δ' C hM
    refine ⟨k, e1, fun hk a na oe pn hz hd => ?_, fun hk => em.ex O σ H Δ' C (h2 hk) s'⟩
    obtain ⟨hil, hp⟩ := h1 hk
    exact (hp a oe pn hz hd).run fm L O _ H _ (fun _ _ _ _ => False) takes0 (s'.set hil rp_ref) ⟨fun O σ H Δ h s => em.nx O _ H _ h (s.unset i), em.rt, em.ro, fun O σ H Δ h s => em.bk O _ H _ h (s.unset i), fun O σ H Δ h s => em.ct O _ H _ h (s.unset i), fun _ _ _ _ _ h => h.elim⟩)⟩
/-- isinstance(e, C), e caught -/
theorem pd_isE {aa C : Addr} {oe : Obj} {pn : List (Addr × Obj)} {cd : Dt} {cv : Value} {k : Bool} (Ec : ExcC X.K C) (hz : Zc (.ref C) none oe) (hd : ∃ vs, oe.data = .fields vs) (hm : X.mg "isinstance" = none) (ha : PD (X.suite aa ((aa, oe) :: pn)) T Δ a (refD aa)) (hb : PD (X.suite aa ((aa, oe) :: pn)) T Δ b cd)
    (hcd : ∀ (F : Hp) (v : V) (u : Value), Rp X.K F v cd → RelV v u → u = cv) (hk : PySem.W.kitOne X.K (.ref C) cv = some k) (hg : Gl (X.suite aa ((aa, oe) :: pn)) "isinstance" := by rfl)
    (he : starEach [a, b] X.env = (false, eval a X.env) :: starEach [b] X.env := by rfl) (he2 : starEach [b] X.env = (false, eval b X.env) :: starEach [] X.env := by rfl) (hpl : (backTo pos (starEach [b] X.env)).any (·.1) = false := by rfl) :
    PD (X.suite aa ((aa, oe) :: pn)) T Δ (.Call (.Name "isinstance" p) [a, b] [] pos) (.bl k) :=
  pr_callB (X := X.suite aa ((aa, oe) :: pn)) (call_isE Ec hz hd) (fun fm L O σ H Δ Q W vs tk s ra q => by
    obtain ⟨v, w, rfl, rv, rw'⟩ := ra.two
    have ev := rv.ref_of
    subst ev
    exact ⟨w, cv, k, rfl, fun u hu => hcd _ _ _ rw' hu, hk, q _ H Gr.refl s (.bl _)⟩) hm (by decide +kernel) (pad_cons ha (pad_cons hb pad_nil he2) he) hg (he := he) (hpl := hpl)
theorem cv_ty {F : Hp} {n : String} {v : V} {u : Value} (h : Rp K F v (.ty n)) (r : RelV v u) : u = .type n := by
  have := h.ty_of
  subst this
  exact r
theorem cv_ref {F : Hp} {C : Addr} {v : V} {u : Value} (h : Rp K F v (refD C)) (r : RelV v u) : u = .ref C := by
  have := h.ref_of
  subst this
  exact r
end
end DL

set_option Elab.async false
set_option linter.all false
set_option maxRecDepth 100000
set_option maxHeartbeats 2000000
/-! DL22: defs that read what is borrowed and keep it. -/
namespace DL
open PySem PySem.Spec L2
/-- all but the tables and l is kept -/
def GrB (T : List Addr) (l : Addr) (H H2 : Hp) : Prop := ∀ a u, a ∉ T → a ≠ l → H a = some u → H2 a = some u
def CV (K : PySem.W.Frag) (T O : List Addr) (l : Addr) (o : Ow) (H : Hp) (Q : VK) (E : XK) : Res → Prop
  | .val d => ∀ v H2, GrB T l H H2 → TabOk T H2 → OwAt K (mask H2 O) H2 l o → Rp K (mask H2 O) v d → Q v H2
  | .own ow => ∀ p H2, H p = none → GrB T l H H2 → TabOk T H2 → OwAt K (mask H2 (p :: O)) H2 l o → OwAt K (mask H2 (p :: O)) H2 p ow → Q (.ref p) H2
  | .exc C => ∀ H2, GrB T l H H2 → TabOk T H2 → OwAt K (mask H2 O) H2 l o → E (.ref C) none H2
def spV (T : List Addr) (K : PySem.W.Frag) (n j : Nat) (Fn : Ow → List Dt → Res → Prop) : Sp := fun vs H Q E => vs.length = n ∧ ∃ O l o ds r, Pre T O H ∧ l ∈ O ∧ l ∉ T ∧ OwAt K (mask H O) H l o ∧ vs[j]? = some (.ref l) ∧ RpA K (mask H O) (vs.eraseIdx j) ds ∧ Fn o ds r ∧ CV K T O l o H Q E r
abbrev FnV (P : Program) (w : World) (K : PySem.W.Frag) (mg : Str → Option Value) (base : Heap) (T : List Addr) (k : Nat) (f : Addr) (fd : FuncData) (ps : List Str) (j : Nat) (Fn : Ow → List Dt → Res → Prop) : Prop := FnOk P w K mg base (L2.CX P w) k f fd ps (spV T K ps.length j Fn)
structure CalleeV (P : Program) (w : World) (K : PySem.W.Frag) (mg : Str → Option Value) (base : Heap) (T : List Addr) (x : Str) (k : Nat) (ps : List Str) (j : Nat) (Fn : Ow → List Dt → Res → Prop) : Prop where
  ex : ∃ f fd, FnV P w K mg base T k f fd ps j Fn ∧ mg x = some (.ref f) ∧ PySem.W.keepIn K (.ref f) = true ∧ Binds K fd ps []
def deV (j : Nat) (l : Addr) (o : Ow) : Res → DE
  | .val d => { rt := fun Δ' d' => d' = d ∧ ∃ br, Δ'[j]? = some (some (.own l br o)), nx := fun Δ' => d = .non ∧ ∃ br, Δ'[j]? = some (some (.own l br o)) }
  | .own ow => { ro := fun Δ' o' => o' = ow ∧ ∃ br, Δ'[j]? = some (some (.own l br o)) }
  | .exc C => { ex := fun Δ' C' => C' = C ∧ ∃ br, Δ'[j]? = some (some (.own l br o)) }
section
variable {P : Program} {w : World} {K : PySem.W.Frag} {mg : Str → Option Value} {base : Heap} {T : List Addr}
theorem fn_okV {x qual : Str} {st : Stmt} {f : Addr} {fd : FuncData} {N ps : List Str} {k j : Nat} {Fn : Ow → List Dt → Res → Prop} (F : Fun K x qual st f fd) (S : FnScope N ps (defScope st)) (hNp : ps.length ≤ N.length)
    (hbody : ∀ (cdv : Value) (A : Around) (outer : List PySem.Env) (s : Shared) (H : Hp) (E : XK) (l : Addr) (o : Ow) (ds : List Dt) (r : Res), Room k (A.deeper (PyProof.Rows.envOfC qual (defScope st) s.heap.objs.size f cdv)) → ds.length + 1 = ps.length → Fn o ds r →
      PSsD (cxOf (L2.CX P w) P w K mg base N qual (defScope st) f cdv A outer s H E) T (startB N j l o ds) (defBody st) (deV j l o r)) : FnV P w K mg base T (k + 1) f fd ps j Fn := by
  refine F.okX S (fun vs H Q E h => h.1) (fun cdv A outer s H vs Q E hr h => ?_)
  obtain ⟨hl, O, l, o, ds, r, hp, hlO, hlT, ow, ej, ra, hF, ck⟩ := h
  refine ⟨_, canSs_ok, ?_⟩
  have hj := (List.getElem?_eq_some_iff.mp ej).1
  have hlen : ds.length + 1 = ps.length := by
    have := ra.len
    rw [List.length_eraseIdx, if_pos hj] at this
    omega
  refine (hbody cdv A outer s H E l o ds r hr hlen hF).run ⟨O, [l], H, []⟩ [] O _ H _ (fun cls d _ H' => E cls d H') (takes_of rfl rfl rfl rfl) (sta_startB hp (by omega) (by omega) hlO hlT ow ej ra) ?_
  have gb : ∀ {O' : List Addr} {σ' : St} {H' : Hp} {Δ' : DEnv}, Sta K T ⟨O, [l], H, []⟩ [] O' σ' H' Δ' → GrB T l H H' := fun {O' σ' H' Δ'} s' a u h1 h2 e => s'.keep a u e h1 (fun z => h2 (List.mem_singleton.mp z)) fun _ z => nomatch z
  have ol : ∀ {O' : List Addr} {σ' : St} {H' : Hp} {Δ' : DEnv}, (∃ br, Δ'[j]? = some (some (.own l br o))) → Sta K T ⟨O, [l], H, []⟩ [] O' σ' H' Δ' → OwAt K (mask H' O') H' l o := fun {O' σ' H' Δ'} h s' => by
    obtain ⟨br, h⟩ := h
    exact (s'.ow h).2.2
  cases r with
  | val d =>
    refine ⟨fun O' σ' H' Δ' h s' => ?_, fun O' σ' H' Δ' v d' h s' rv => ?_, fun _ _ _ _ _ _ h => h.elim, fun _ _ _ _ h => h.elim, fun _ _ _ _ h => h.elim, fun _ _ _ _ _ h => h.elim⟩
    · obtain ⟨rfl, h⟩ := h
      exact ck _ H' (gb s') s'.tab ((ol h s').mono (mask_sub s'.o0) fun u hu => hu) .non
    · obtain ⟨rfl, h⟩ := h
      exact ck v H' (gb s') s'.tab ((ol h s').mono (mask_sub s'.o0) fun u hu => hu) (rv.mono (mask_sub s'.o0))
  | own ow' =>
    refine ⟨fun _ _ _ _ h => h.elim, fun _ _ _ _ _ _ h => h.elim, fun O' σ' H' Δ' p o' h s' hpO hp0 ow2 => ?_, fun _ _ _ _ h => h.elim, fun _ _ _ _ h => h.elim, fun _ _ _ _ _ h => h.elim⟩
    obtain ⟨rfl, h⟩ := h
    have sub : Le (mask H' O') (mask H' (p :: O)) := mask_sub fun a ha => by
      rcases List.mem_cons.mp ha with z | z
      · rw [z]; exact hpO
      · exact s'.o0 a z
    exact ck p H' hp0 (gb s') s'.tab ((ol h s').mono sub fun u hu => hu) (ow2.mono sub fun u hu => hu)
  | exc C =>
    refine ⟨fun _ _ _ _ h => h.elim, fun _ _ _ _ _ _ h => h.elim, fun _ _ _ _ _ _ h => h.elim, fun _ _ _ _ h => h.elim, fun _ _ _ _ h => h.elim, fun O' σ' H' Δ' C' h s' => ?_⟩
    obtain ⟨rfl, h⟩ := h
    exact ck H' (gb s') s'.tab ((ol h s').mono (mask_sub s'.o0) fun u hu => hu)
end
/-! ### expressions that keep what one has, but not its place -/
def RV (K : PySem.W.Frag) (T : List Addr) (fm : Fm) (L : Lk) (O : List Addr) (σ : St) (H : Hp) (Δ : DEnv) (Q : VK) (W : WX) : Res → Prop
  | .val d => ∀ v H2, Sta K T fm L O σ H2 Δ → Rp K (mask H2 O) v d → Q v H2
  | .own o => ∀ p H2, H p = none → Sta K T fm L (p :: O) σ H2 Δ → OwAt K (mask H2 (p :: O)) H2 p o → Q (.ref p) H2
  | .exc C => ∀ H2, Sta K T fm L O σ H2 Δ → W (.ref C) none σ H2
structure PV (X : Cx) (T : List Addr) (Δ : DEnv) (e : Expr) (r : Res) : Prop where
  run : ∀ (fm : Fm) (L : Lk) (O : List Addr) (σ : St) (H : Hp) (Q : VK) (W : WX), Takes X W → Sta X.K T fm L O σ H Δ → RV X.K T fm L O σ H Δ Q W r → canE X e σ H Q
section
variable {X : Cx} {T : List Addr} {Δ : DEnv} {e a b c : Expr} {es : List Expr} {d d1 d2 d3 : Dt} {ds : List Dt} {r : Res} {pos p : Pos} {st : Stmt} {rest sts : List Stmt} {P : DE}
variable {K : PySem.W.Frag} {fm : Fm} {L : Lk} {O : List Addr} {σ : St} {H H' : Hp} {Q : VK} {W : WX} {D : Ends}
theorem psd_retOV {o : Ow} (he : PV X T Δ e (.own o)) (h : P.ro Δ o) : PSD X T Δ (.Return (some e) pos) P :=
  .of (ps_ret canE_ok) fun fm L O σ H D W tk s em => he.run fm L O σ H _ W tk s fun p H1 hp s1 ow => em.ro (p :: O) σ H1 Δ p o h s1 List.mem_cons_self (s.fresh0 hp) ow
theorem set_self {Δ : DEnv} {i : Nat} {x : Option En} (h : Δ[i]? = some x) : Δ.set i x = Δ := by
  refine List.ext_getElem? fun j => ?_
  by_cases hj : i = j
  · subst hj
    rw [List.getElem?_set_self (List.getElem?_eq_some_iff.mp h).1, h]
  · rw [getset_ne hj]
/-- what one does not hold in a slot may change -/
theorem Sta.grB {l : Addr} (s : Sta K T fm L O σ H Δ) (hl : l ∈ O) (hL : ∀ q ∈ L, q.1 ≠ l) (h0 : fm.H0 l = none) (hne : ∀ (i : Nat) (l' : Addr) (br : Bool) (o : Ow), Δ[i]? = some (some (.own l' br o)) → l' ≠ l) (g : GrB T l H H') (ht : TabOk T H') (h2 : Held H' l) : Sta K T fm L O σ H' Δ := by
  have le : Le (mask H O) (mask H' O) := Le.of_same fun a u e => by
    obtain ⟨e1, e2⟩ := mask_some e
    rw [mask_out e2]
    exact g a u (fun z => e2 (s.tO a z)) (fun z => e2 (z ▸ hl)) e1
  have noL : ∀ q ∈ L, q.1 ∉ T := fun q hq z => by
    obtain ⟨ps, e, _⟩ := s.tab q.1 z
    rw [s.lock q hq] at e
    cases e
  refine ⟨s.tO, ht, fun a ha => ?_, s.o0, s.b0, s.d0, fun q hq => (s.pin q hq).mono le, fun a u e h1 h2 h3 => ?_, fun q hq => g _ _ (noL q hq) (hL q hq) (s.lock q hq), s.len, fun j e he => ?_, s.own, s.sep⟩
  · by_cases hT : a ∈ T
    · obtain ⟨ps, e, _⟩ := ht a hT
      exact .of e fun _ z => nomatch z
    · by_cases z : a = l
      · rw [z]; exact h2
      · exact (s.dom a ha).keep fun u q => g a u hT z q
  · exact g a u h1 (fun z => by rw [z, h0] at e; cases e) (s.keep a u e h1 h2 h3)
  · obtain ⟨v, h1, h2⟩ := s.slot j e he
    refine ⟨v, h1, ?_⟩
    cases e with
    | imm d => exact Rp.mono le h2
    | own l' br' o1 =>
      obtain ⟨q1, q2, q3⟩ := h2
      exact ⟨q1, q2, q3.mono le fun u hu => g l' u (s.own j l' br' o1 he).1 (hne j l' br' o1 he) hu⟩
end
/-! ### an __init__ that reads a list handed in: self, a, the list, b -/
def spI2 (T : List Addr) (K : PySem.W.Frag) (Fn : Ow → Ow → Dt → Dt → Ow → Prop) : Sp := fun vs H Q E => vs.length = 4 ∧ ∃ O l o l2 o2 v1 v3 d1 d3 o', Pre T O H ∧ l ∈ O ∧ l ∉ T ∧ OwAt K (mask H O) H l o ∧ l2 ∈ O ∧ l2 ∉ T ∧ l2 ≠ l ∧ OwAt K (mask H O) H l2 o2 ∧ vs = [.ref l, v1, .ref l2, v3] ∧
  Rp K (mask H O) v1 d1 ∧ Rp K (mask H O) v3 d3 ∧ Fn o o2 d1 d3 o' ∧
  ∀ H2, (∀ a u, a ∉ T → a ≠ l → a ≠ l2 → H a = some u → H2 a = some u) → TabOk T H2 → OwAt K (mask H2 O) H2 l o' → OwAt K (mask H2 O) H2 l2 o2 → Q .non H2
abbrev FnI2 (P : Program) (w : World) (K : PySem.W.Frag) (mg : Str → Option Value) (base : Heap) (T : List Addr) (k : Nat) (f : Addr) (fd : FuncData) (ps : List Str) (Fn : Ow → Ow → Dt → Dt → Ow → Prop) : Prop := FnOk P w K mg base (L2.CX P w) k f fd ps (spI2 T K Fn)
structure CalleeC2 (P : Program) (w : World) (K : PySem.W.Frag) (mg : Str → Option Value) (base : Heap) (T : List Addr) (x : Str) (C : Addr) (k : Nat) (ps : List Str) (Fn : Ow → Ow → Dt → Dt → Ow → Prop) : Prop where
  ex : ∃ f fd, FnI2 P w K mg base T k f fd ps Fn ∧ Mk K C f ∧ mg x = some (.ref C) ∧ Binds K fd ps []
def startI2 (N : List Str) (l l2 : Addr) (o o2 : Ow) (d1 d3 : Dt) : DEnv := [some (.own l true o), some (.imm d1), some (.own l2 true o2), some (.imm d3)] ++ List.replicate (N.length - 4) none
section
variable {P : Program} {w : World} {K : PySem.W.Frag} {mg : Str → Option Value} {base : Heap} {T : List Addr}
theorem startI2_get {N : List Str} {l l2 : Addr} {o o2 : Ow} {d1 d3 : Dt} {i : Nat} {e : En} (h : (startI2 N l l2 o o2 d1 d3)[i]? = some (some e)) : (i = 0 ∧ e = .own l true o) ∨ (i = 1 ∧ e = .imm d1) ∨ (i = 2 ∧ e = .own l2 true o2) ∨ (i = 3 ∧ e = .imm d3) := by
  unfold startI2 at h
  match i, h with
  | 0, h => cases h; exact .inl ⟨rfl, rfl⟩
  | 1, h => cases h; exact .inr (.inl ⟨rfl, rfl⟩)
  | 2, h => cases h; exact .inr (.inr (.inl ⟨rfl, rfl⟩))
  | 3, h => cases h; exact .inr (.inr (.inr ⟨rfl, rfl⟩))
  | n + 4, h =>
    rw [List.getElem?_append_right (by simp), List.getElem?_replicate] at h
    split at h <;> cases h
theorem fn_okI2 {x qual : Str} {st : Stmt} {f : Addr} {fd : FuncData} {N ps : List Str} {k : Nat} {Fn : Ow → Ow → Dt → Dt → Ow → Prop} (F : Fun K x qual st f fd) (S : FnScope N ps (defScope st)) (hps : ps.length = 4) (hNp : 4 ≤ N.length)
    (hbody : ∀ (cdv : Value) (A : Around) (outer : List PySem.Env) (s : Shared) (H : Hp) (E : XK) (l l2 : Addr) (o o2 : Ow) (d1 d3 : Dt) (o' : Ow), Room k (A.deeper (PyProof.Rows.envOfC qual (defScope st) s.heap.objs.size f cdv)) → Fn o o2 d1 d3 o' →
      PSsD (cxOf (L2.CX P w) P w K mg base N qual (defScope st) f cdv A outer s H E) T (startI2 N l l2 o o2 d1 d3) (defBody st) { nx := fun Δ' => (∃ br, Δ'[0]? = some (some (.own l br o'))) ∧ ∃ br, Δ'[2]? = some (some (.own l2 br o2)) }) : FnI2 P w K mg base T (k + 1) f fd ps Fn := by
  refine F.okX S (fun vs H Q E h => h.1.trans hps.symm) (fun cdv A outer s H vs Q E hr h => ?_)
  obtain ⟨_, O, l, o, l2, o2, v1, v3, d1, d3, o', hp, hlO, hlT, ow, hlO2, hlT2, hne, ow2, rfl, r1, r3, hF, ck⟩ := h
  refine ⟨_, canSs_ok, ?_⟩
  have st : ∀ {i : Nat} {v : V}, ([.ref l, v1, .ref l2, v3] : List V)[i]? = some v → (L2.start N [.ref l, v1, .ref l2, v3])[i]? = some (some v) := fun {i v} h => by
    unfold L2.start
    have hi := (List.getElem?_eq_some_iff.mp h).1
    rw [List.getElem?_append_left (by rw [List.length_map]; exact hi), List.getElem?_map, h]
    rfl
  have s0 : Sta K T ⟨O, [l, l2], H, []⟩ [] O (L2.start N [.ref l, v1, .ref l2, v3]) H (startI2 N l l2 o o2 d1 d3) := by
    refine ⟨hp.tO, hp.tab, hp.dom, fun _ h => h, fun a ha => ?_, (fun l h => (hp.dom l h).1), (fun _ h => nomatch h), fun _ _ e _ _ _ => e, (fun _ h => nomatch h), ?_, fun i e he => ?_, fun i l' br o1 he => ?_, fun i j l' b1 b2 o1 o2' h1 h2 => ?_⟩
    · rcases List.mem_cons.mp ha with z | z
      · rw [z]; exact hlO
      · rw [List.mem_singleton.mp z]; exact hlO2
    · unfold L2.start startI2
      simp
    · rcases startI2_get he with ⟨rfl, rfl⟩ | ⟨rfl, rfl⟩ | ⟨rfl, rfl⟩ | ⟨rfl, rfl⟩
      · exact ⟨.ref l, st rfl, rfl, hlO, ow⟩
      · exact ⟨v1, st rfl, r1⟩
      · exact ⟨.ref l2, st rfl, rfl, hlO2, ow2⟩
      · exact ⟨v3, st rfl, r3⟩
    · rcases startI2_get he with ⟨rfl, z⟩ | ⟨rfl, z⟩ | ⟨rfl, z⟩ | ⟨rfl, z⟩
      · cases z; exact ⟨hlT, fun _ h => (nomatch h), List.mem_cons_self⟩
      · cases z
      · cases z; exact ⟨hlT2, fun _ h => (nomatch h), List.mem_cons_of_mem _ List.mem_cons_self⟩
      · cases z
    · have one : ∀ {i : Nat} {b : Bool} {o1 : Ow}, (startI2 N l l2 o o2 d1 d3)[i]? = some (some (.own l' b o1)) → (i = 0 ∧ l' = l) ∨ (i = 2 ∧ l' = l2) := fun {i b o1} h => by
        rcases startI2_get h with ⟨rfl, z⟩ | ⟨rfl, z⟩ | ⟨rfl, z⟩ | ⟨rfl, z⟩
        · cases z; exact .inl ⟨rfl, rfl⟩
        · cases z
        · cases z; exact .inr ⟨rfl, rfl⟩
        · cases z
      rcases one h1 with ⟨z1, q1⟩ | ⟨z1, q1⟩ <;> rcases one h2 with ⟨z2, q2⟩ | ⟨z2, q2⟩
      · rw [z1, z2]
      · exact absurd (q2.symm.trans q1) hne
      · exact absurd (q1.symm.trans q2) hne
      · rw [z1, z2]
  refine (hbody cdv A outer s H E l l2 o o2 d1 d3 o' hr hF).run ⟨O, [l, l2], H, []⟩ [] O _ H _ (fun cls d _ H' => E cls d H') (takes_of rfl rfl rfl rfl) s0 ?_
  refine ⟨fun O' σ' H' Δ' h s' => ?_, fun _ _ _ _ _ _ h => h.elim, fun _ _ _ _ _ _ h => h.elim, fun _ _ _ _ h => h.elim, fun _ _ _ _ h => h.elim, fun _ _ _ _ _ h => h.elim⟩
  obtain ⟨⟨br, h1⟩, br2, h2⟩ := h
  have sub : Le (mask H' O') (mask H' O) := mask_sub s'.o0
  exact ck H' (fun a u h1 h2 h3 e => s'.keep a u e h1 (fun z => by
    rcases List.mem_cons.mp z with z | z
    · exact h2 z
    · exact h3 (List.mem_singleton.mp z)) fun _ z => nomatch z) s'.tab ((s'.ow h1).2.2.mono sub fun u hu => hu) ((s'.ow h2).2.2.mono sub fun u hu => hu)
end
section
variable {X : Cx} {T : List Addr} {Δ : DEnv} {e e2 e3 : Expr} {es : List Expr} {d d1 d3 : Dt} {pos p : Pos}
/-- C(a, x, b), x one's own -/
theorem pv_make (i : Nat) {C l2 : Addr} {x y : Str} {k : Nat} {ps : List Str} {p1 : Pos} {br : Bool} {o2 o' : Ow} {Fn : Ow → Ow → Dt → Dt → Ow → Prop} (G : CalleeC2 X.prog X.w X.K X.mg X.base T x C k ps Fn) (hr : Room (k + 1) X.A) (hi : Δ[i]? = some (some (.own l2 br o2))) (h1 : PD X T Δ e d1) (h3 : PD X T Δ e3 d3) (hF : Fn (.ins C []) o2 d1 d3 o')
    (hN : X.N[i]? = some y := by rfl) (hv : Vis X.env.scope y := by first | exact Or.inl rfl | exact Or.inr (Or.inl rfl) | exact Or.inr (Or.inr rfl)) (hd : (y == ("__debug__" : Str)) = false := by decide) (hcd : (y == ("__classdict__" : Str)) = false := by decide)
    (hg : Gl X x := by rfl) (hdb : (x == ("__debug__" : Str)) = false := by decide) (he : starEach [e, .Name y p1, e3] X.env = (false, eval e X.env) :: starEach [.Name y p1, e3] X.env := by rfl)
    (he2 : starEach [.Name y p1, e3] X.env = (false, eval (.Name y p1) X.env) :: starEach [e3] X.env := by rfl) (he3 : starEach [e3] X.env = (false, eval e3 X.env) :: starEach [] X.env := by rfl) (hpl : (backTo pos (starEach [.Name y p1, e3] X.env)).any (·.1) = false := by rfl) : PV X T Δ (.Call (.Name x p) [e, .Name y p1, e3] [] pos) (.own o') := by
  obtain ⟨f, fd, g1, g2, g3, g4⟩ := G.ex
  have pa : PAB X T Δ [e, .Name y p1, e3] i 1 l2 [d1, d3] := pab_later h1 (pab_here i hi (pad_cons h3 pad_nil he3) hN hv hd hcd he2) he
  exact ⟨fun fm L O σ H Q W tk s q pins sh I => (pe_makeS (E := WE W) g2 g1 hr hg g3 g4 (fun σ => passAt tk σ) canA_ok hdb he hpl).run pins sh σ H Q I (pa.run fm L O σ H _ W tk s fun vs H1 gg1 s1 ej el ra => by
    intro x dx nx ndx ne
    obtain ⟨xO, x0, xT, xL⟩ := s1.new_apart nx
    obtain ⟨dO, d0, dT, dL⟩ := s1.new_apart ndx
    obtain ⟨hlO, how⟩ := (s1.ow hi).2
    obtain ⟨hlT, hlL, hl0⟩ := s1.own i l2 br o2 hi
    have hne2 : l2 ≠ x := xL i l2 br o2 hi
    obtain ⟨v1, v3, evs, r1, r3⟩ : ∃ v1 v3, vs = [v1, .ref l2, v3] ∧ Rp X.K (mask H1 O) v1 d1 ∧ Rp X.K (mask H1 O) v3 d3 := by
      match vs, ej, el, ra with
      | [w1, w2, w3], ej, _, ra =>
        cases ej
        have ra : RpA X.K (mask H1 O) [w1, w3] [d1, d3] := ra
        obtain ⟨a, b, e, q1, q2⟩ := ra.two
        cases e
        exact ⟨w1, w3, rfl, q1, q2⟩
    subst evs
    have up : ∀ a u, H1 a = some u → (upd (upd H1 dx (.own x)) x (.ins C dx [])) a = some u := fun a u h => by
      rw [upd_ne (ne_of_none h nx), upd_ne (ne_of_none h ndx)]
      exact h
    have t0 : TabOk T (upd (upd H1 dx (.own x)) x (.ins C dx [])) := fun P hP => by
      obtain ⟨ps, e, q⟩ := s1.tab P hP
      exact ⟨ps, up _ _ e, q⟩
    have le : Le (mask H1 O) (mask (upd (upd H1 dx (.own x)) x (.ins C dx [])) (x :: O)) := Le.of_same fun a u h => by
      obtain ⟨e1, e2⟩ := mask_some h
      have n1 := ne_of_none e1 nx
      rw [mask_out fun z => (List.mem_cons.mp z).elim n1 e2]
      exact up _ _ e1
    have pre : Pre T (x :: O) (upd (upd H1 dx (.own x)) x (.ins C dx [])) := ⟨fun P hP => List.mem_cons_of_mem _ (s1.tO P hP), t0, fun a ha => by
      rcases List.mem_cons.mp ha with z | z
      · rw [z]; exact .of upd_same fun _ z => nomatch z
      · exact (s1.dom a z).keep fun u q => up a u q⟩
    have nx0 : H x = none := gg1.back xT nx
    refine ⟨rfl, x :: O, x, .ins C [], l2, o2, v1, v3, d1, d3, o', pre, List.mem_cons_self, xT, ⟨dx, [], upd_same, ⟨rfl, .nil⟩⟩, List.mem_cons_of_mem _ hlO, hlT, hne2, how.mono le (up l2), rfl, r1.mono le, r3.mono le, hF, fun H2 g t ow ow2 => ?_⟩
    refine ⟨rfl, ?_⟩
    have gb : GrB T l2 H1 H2 := fun a u h1 h2 h => g a u h1 (ne_of_none h nx) h2 (up a u h)
    have s2 : Sta X.K T fm L O σ H2 Δ := by
      have := s1.own_call hi gb t (ow2.mono (mask_sub fun a ha => List.mem_cons_of_mem _ ha) fun u hu => hu)
      rwa [set_self hi] at this
    have s3 : Sta X.K T fm L (x :: O) σ H2 Δ := by
      have le2 : Le (mask H1 O) (mask H2 (x :: O)) := Le.of_same fun a u h => by
        obtain ⟨e1, e2⟩ := mask_some h
        have n1 := ne_of_none e1 nx
        rw [mask_out fun z => (List.mem_cons.mp z).elim n1 e2]
        exact gb a u (fun z => e2 (s1.tO a z)) (fun z => e2 (z ▸ hlO)) e1
      refine ⟨fun P hP => List.mem_cons_of_mem _ (s2.tO P hP), t, fun a ha => ?_, fun a ha => List.mem_cons_of_mem _ (s2.o0 a ha), s2.b0, s2.d0, fun q hq => (s1.pin q hq).mono le2, s2.keep, s2.lock, s2.len, fun j e he => ?_, s2.own, s2.sep⟩
      · rcases List.mem_cons.mp ha with z | z
        · rw [z]; exact ow.held
        · exact s2.dom a z
      · obtain ⟨v, q1, q2⟩ := s1.slot j e he
        refine ⟨v, q1, ?_⟩
        cases e with
        | imm d => exact Rp.mono le2 q2
        | own l' br' o1 =>
          obtain ⟨w1, w2, w3⟩ := q2
          refine ⟨w1, List.mem_cons_of_mem _ w2, ?_⟩
          by_cases z : l' = l2
          · subst z
            have hj := s1.sep i j l' br br' o2 o1 hi he
            subst hj
            rw [hi] at he
            cases he
            exact ow2
          · exact w3.mono le2 fun u hu => gb l' u (s1.own j l' br' o1 he).1 z hu
    exact q x H2 nx0 s3 ow)⟩
end
end DL

set_option Elab.async false
set_option linter.all false
set_option maxRecDepth 100000
set_option maxHeartbeats 2000000
/-! DL23: a list of one's own that no slot holds (a list in a list). -/
namespace DL
open PySem PySem.Spec L2
structure Gh (K : PySem.W.Frag) (T : List Addr) (fm : Fm) (L : Lk) (O : List Addr) (H : Hp) (Δ : DEnv) (pg : Addr) (xs : List Dt) : Prop where
  mem : pg ∈ O
  nT : pg ∉ T
  nL : ∀ q ∈ L, q.1 ≠ pg
  ne : ∀ (i : Nat) (l : Addr) (br : Bool) (o : Ow), Δ[i]? = some (some (.own l br o)) → l ≠ pg
  h0 : fm.H0 pg = none
  at_ : ∃ vs, H pg = some (.lst vs) ∧ RpA K (mask H O) vs xs
structure PGsD (X : Cx) (T : List Addr) (Δ : DEnv) (pg : Addr) (xs : List Dt) (sts : List Stmt) (P : DE) : Prop where
  run : ∀ (fm : Fm) (L : Lk) (O : List Addr) (σ : St) (H : Hp) (D : Ends) (W : WX), Takes X W → Sta X.K T fm L O σ H Δ → Gh X.K T fm L O H Δ pg xs → Emb X.K T fm L P D W → canSs X sts D σ H
section
variable {X : Cx} {T : List Addr} {Δ : DEnv} {e a b c : Expr} {es : List Expr} {d d1 d2 d3 : Dt} {ds xs : List Dt} {r : Res} {pos p : Pos} {st : Stmt} {rest sts : List Stmt} {P : DE} {pg : Addr}
variable {K : PySem.W.Frag} {fm : Fm} {L : Lk} {O : List Addr} {σ : St} {H H' : Hp} {Q : VK} {W : WX} {D : Ends}
theorem Gh.gr (s : Sta K T fm L O σ H Δ) (g : Gh K T fm L O H Δ pg xs) (gr : Gr T H H') : Gh K T fm L O H' Δ pg xs := by
  obtain ⟨vs, h1, h2⟩ := g.at_
  exact ⟨g.mem, g.nT, g.nL, g.ne, g.h0, vs, gr pg _ g.nT h1, h2.mono (gr.mask s.tO)⟩
/-- the frame that holds the ghost fast -/
def Fm.gh (fm : Fm) (pg : Addr) (u : Option HO) (π : List (V × Dt)) : Fm := ⟨pg :: fm.O0, fm.B, fun a => if a = pg then u else fm.H0 a, π ++ fm.pins⟩
theorem Sta.gh {π : List (V × Dt)} (s : Sta K T fm L O σ H Δ) (g : Gh K T fm L O H Δ pg xs) (hπ : ∀ q ∈ π, Rp K (mask H O) q.1 q.2) : Sta K T (fm.gh pg (H pg) π) L O σ H Δ := by
  obtain ⟨vs, h1, h2⟩ := g.at_
  refine ⟨s.tO, s.tab, s.dom, fun a ha => ?_, fun a ha => List.mem_cons_of_mem _ (s.b0 a ha), fun a ha => ?_, fun q hq => ?_, fun a u e h1 h2 h3 => ?_, s.lock, s.len, s.slot, fun i l br o he => ?_, s.sep⟩
  · rcases List.mem_cons.mp ha with z | z
    · rw [z]; exact g.mem
    · exact s.o0 a z
  · show (if a = pg then H pg else fm.H0 a) ≠ none
    by_cases z : a = pg
    · rw [if_pos z, h1]; exact fun z => nomatch z
    · rw [if_neg z]
      rcases List.mem_cons.mp ha with z2 | z2
      · exact absurd z2 z
      · exact s.d0 a z2
  · rcases List.mem_append.mp hq with z | z
    · exact hπ q z
    · exact s.pin q z
  · have e : (if a = pg then H pg else fm.H0 a) = some u := e
    by_cases z : a = pg
    · rw [if_pos z] at e
      rw [z]; exact e
    · rw [if_neg z] at e
      exact s.keep a u e h1 h2 h3
  · obtain ⟨q1, q2, q3⟩ := s.own i l br o he
    refine ⟨q1, q2, ?_⟩
    cases br with
    | true => exact q3
    | false =>
      show (if l = pg then H pg else fm.H0 l) = none
      rw [if_neg (g.ne i l _ o he)]
      exact q3
theorem Sta.ungh {π : List (V × Dt)} {u : HO} (hb : ∀ l ∈ fm.B, l ∈ fm.O0) (hd : ∀ l ∈ fm.O0, fm.H0 l ≠ none) (h0 : fm.H0 pg = none) (s : Sta K T (fm.gh pg (some u) π) L O σ H Δ) : Sta K T fm L O σ H Δ := by
  refine ⟨s.tO, s.tab, s.dom, fun a ha => s.o0 a (List.mem_cons_of_mem _ ha), hb, hd, fun q hq => s.pin q (List.mem_append.mpr (.inr hq)), fun a u' e h1 h2 h3 => ?_, s.lock, s.len, s.slot, fun i l br o he => ?_, s.sep⟩
  · refine s.keep a u' ?_ h1 h2 h3
    show (if a = pg then some u else fm.H0 a) = some u'
    rw [if_neg fun z => by rw [z, h0] at e; cases e]
    exact e
  · obtain ⟨q1, q2, q3⟩ := s.own i l br o he
    refine ⟨q1, q2, ?_⟩
    cases br with
    | true => exact q3
    | false =>
      have q3 : (if l = pg then some u else fm.H0 l) = none := q3
      by_cases z : l = pg
      · rw [if_pos z] at q3; cases q3
      · rw [if_neg z] at q3; exact q3
theorem Gh.un {π : List (V × Dt)} {vs : List V} (hb : ∀ l ∈ fm.B, l ∈ fm.O0) (hd : ∀ l ∈ fm.O0, fm.H0 l ≠ none) (h0 : fm.H0 pg = none) (nT : pg ∉ T) (nL : ∀ q ∈ L, q.1 ≠ pg) (hl : vs.length = xs.length) (hπ : ∀ q ∈ vs.zip xs, q ∈ π) (s : Sta K T (fm.gh pg (some (.lst vs)) π) L O σ H Δ) : Gh K T fm L O H Δ pg xs := by
  have nB : pg ∉ fm.B := fun z => hd pg (hb pg z) h0
  refine ⟨s.o0 pg List.mem_cons_self, nT, nL, fun i l br o he z => ?_, h0, vs, s.keep pg (.lst vs) (if_pos rfl) nT nB nL, hl, fun i x d a b => ?_⟩
  · obtain ⟨q1, q2, q3⟩ := s.own i l br o he
    subst z
    cases br with
    | true => exact nB q3
    | false =>
      have q3 : (if l = l then some (HO.lst vs) else fm.H0 l) = none := q3
      rw [if_pos rfl] at q3; cases q3
  · refine s.pin (x, d) (List.mem_append.mpr (.inl (hπ _ ?_)))
    refine List.mem_of_getElem? (i := i) ?_
    rw [List.getElem?_zip_eq_some]
    exact ⟨a, b⟩
/-- a statement that knows nothing of it -/
theorem pgs_step (M : DEnv → Prop) (h : PSD X T Δ st { P with nx := M }) (k : ∀ Δ', M Δ' → PGsD X T Δ' pg xs rest P) : PGsD X T Δ pg xs (st :: rest) P :=
  ⟨fun fm L O σ H D W tk s g em pins sh I => (pss_cons canS_ok canSs_ok).run pins sh σ H D I (by
    obtain ⟨vs, h1, h2⟩ := g.at_
    have hπ : ∀ q ∈ vs.zip xs, Rp X.K (mask H O) q.1 q.2 := fun q hq => by
      obtain ⟨i, hi⟩ := List.mem_iff_getElem?.mp hq
      rw [List.getElem?_zip_eq_some] at hi
      exact h2.at_ i _ _ hi.1 hi.2
    have s1 : Sta X.K T (fm.gh pg (some (.lst vs)) (vs.zip xs)) L O σ H Δ := by
      have := s.gh g hπ
      rwa [h1] at this
    refine h.run _ L O σ H { D with nx := canSs X rest D } W tk s1 ⟨fun O' σ' H' Δ' hM s' => ?_, fun O' σ' H' Δ' v d hr s' => em.rt O' σ' H' Δ' v d hr (s'.ungh s.b0 s.d0 g.h0), fun O' σ' H' Δ' l o hr s' hl hl0 => ?_, fun O' σ' H' Δ' hb s' => em.bk O' σ' H' Δ' hb (s'.ungh s.b0 s.d0 g.h0), fun O' σ' H' Δ' hb s' => em.ct O' σ' H' Δ' hb (s'.ungh s.b0 s.d0 g.h0), fun O' σ' H' Δ' C hb s' => em.ex O' σ' H' Δ' C hb (s'.ungh s.b0 s.d0 g.h0)⟩
    · exact (k Δ' hM).run fm L O' σ' H' D W tk (s'.ungh s.b0 s.d0 g.h0) (Gh.un s.b0 s.d0 g.h0 g.nT g.nL h2.len (fun _ z => z) s') em
    · refine em.ro O' σ' H' Δ' l o hr (s'.ungh s.b0 s.d0 g.h0) hl ?_
      have hl0 : (if l = pg then some (HO.lst vs) else fm.H0 l) = none := hl0
      by_cases z : l = pg
      · rw [if_pos z] at hl0; cases hl0
      · rw [if_neg z] at hl0; exact hl0)⟩
theorem pgs_imp {P' : DE} (h : PGsD X T Δ pg xs sts P') (hh : ∀ (fm : Fm) (L : Lk) (D : Ends) (W : WX), Emb X.K T fm L P D W → Emb X.K T fm L P' D W) : PGsD X T Δ pg xs sts P := ⟨fun fm L O σ H D W tk s g em => h.run fm L O σ H D W tk s g (hh fm L D W em)⟩
/-- seen as data -/
theorem Sta.seen (s : Sta K T fm L O σ H Δ) (g : Gh K T fm L O H Δ pg xs) {i j : Nat} {l : Addr} {br : Bool} (hi : Δ[i]? = some (some (.own l br (.lst ds)))) (hj : ds[j]? = some (refD pg)) :
    Sta K T fm L (O.filter fun a => decide (a ≠ pg)) σ H (Δ.set i (some (.own l br (.lst (ds.set j (.lst xs)))))) := by
  have hil : i < Δ.length := (List.getElem?_eq_some_iff.mp hi).1
  obtain ⟨ws, hw, rw'⟩ := g.at_
  have memO : ∀ a, a ∈ (O.filter fun a => decide (a ≠ pg)) ↔ a ∈ O ∧ a ≠ pg := fun a => by simp [List.mem_filter]
  have le : Le (mask H O) (mask H (O.filter fun a => decide (a ≠ pg))) := mask_sub fun a ha => ((memO a).mp ha).1
  have n0 : pg ∉ fm.O0 := fun z => s.d0 pg z g.h0
  refine ⟨fun P hP => (memO P).mpr ⟨s.tO P hP, fun z => g.nT (z ▸ hP)⟩, s.tab, fun a ha => s.dom a ((memO a).mp ha).1, fun a ha => (memO a).mpr ⟨s.o0 a ha, fun z => n0 (z ▸ ha)⟩, s.b0, s.d0, fun q hq => (s.pin q hq).mono le, s.keep, s.lock, by rw [List.length_set]; exact s.len, fun k e he => ?_, fun k l' br' o' he => ?_, fun k m l' b1 b2 o1 o2 h1 h2 => ?_⟩
  · by_cases hk : i = k
    · subst hk
      rw [List.getElem?_set_self hil] at he
      cases he
      obtain ⟨v, q1, q2, q3, vs, q4, q5⟩ := s.slot i _ hi
      refine ⟨v, q1, q2, (memO l).mpr ⟨q3, g.ne i l br _ hi⟩, vs, q4, by rw [List.length_set]; exact q5.len, fun m x d a b => ?_⟩
      by_cases hm : j = m
      · subst hm
        rw [List.getElem?_set_self (List.getElem?_eq_some_iff.mp hj).1] at b
        cases b
        have ex := (q5.at_ j x _ a hj).ref_of
        subst ex
        refine .lst (xs := ws) ?_ rw'.len (rw'.mono le).at_
        rw [mask_out fun z => ((memO pg).mp z).2 rfl]
        exact hw
      · rw [getset_ne hm] at b
        exact (q5.at_ m x d a b).mono le
    · rw [getset_ne hk] at he
      obtain ⟨v, h1, h2⟩ := s.slot k e he
      refine ⟨v, h1, ?_⟩
      cases e with
      | imm d => exact Rp.mono le h2
      | own b br2 o2 =>
        obtain ⟨q1, q2, q3⟩ := h2
        exact ⟨q1, (memO b).mpr ⟨q2, g.ne k b br2 o2 he⟩, q3.mono le fun w hw => hw⟩
  · by_cases hk : i = k
    · subst hk
      rw [List.getElem?_set_self hil] at he
      cases he
      exact s.own i l br _ hi
    · rw [getset_ne hk] at he
      exact s.own k l' br' o' he
  · have back : ∀ {k : Nat} {l' : Addr} {b1 : Bool} {o1 : Ow}, (Δ.set i (some (.own l br (.lst (ds.set j (.lst xs))))))[k]? = some (some (.own l' b1 o1)) → ∃ b2 o2, Δ[k]? = some (some (.own l' b2 o2)) := fun {k l' b1 o1} h => by
      by_cases hk : i = k
      · subst hk
        rw [List.getElem?_set_self hil] at h
        cases h
        exact ⟨br, _, hi⟩
      · rw [getset_ne hk] at h
        exact ⟨b1, o1, h⟩
    obtain ⟨c1, p1, h1⟩ := back h1
    obtain ⟨c2, p2, h2⟩ := back h2
    exact s.sep k m l' c1 c2 p1 p2 h1 h2
/-- it becomes data for good -/
theorem pgs_close (i j : Nat) {l : Addr} {br : Bool} (hi : Δ[i]? = some (some (.own l br (.lst ds)))) (hj : ds[j]? = some (refD pg)) (h : PSsD X T (Δ.set i (some (.own l br (.lst (ds.set j (.lst xs)))))) sts P) : PGsD X T Δ pg xs sts P :=
  ⟨fun fm L O σ H D W tk s g em => h.run fm L _ σ H D W tk (s.seen g hi hj) em⟩
/-- if c: A, c false -/
theorem pgs_ifNo (i j : Nat) {l : Addr} {br : Bool} {A : List Stmt} (hi : Δ[i]? = some (some (.own l br (.lst ds)))) (hj : ds[j]? = some (refD pg)) (hc : PTD X T (Δ.set i (some (.own l br (.lst (ds.set j (.lst xs)))))) c false) (k : PGsD X T Δ pg xs rest P) : PGsD X T Δ pg xs (.If c A [] pos :: rest) P :=
  ⟨fun fm L O σ H D W tk s g em pins sh I => (pss_cons (ps_if canT_ok (canSs_ok (st := A)) pss_nil) canSs_ok).run pins sh σ H D I (hc.run fm L _ σ H _ W tk (s.seen g hi hj) fun H2 g2 s2 => by
    show canSs X rest D σ H2
    exact k.run fm L O σ H2 D W tk (s.gr g2 s2.tab) (g.gr s g2) em)⟩
/-- x = [a, b, c], b a new list of one's own -/
theorem pgs_enter (i : Nat) {x : Str} {pos' lpos : Pos} {e1 e2 e3 : Expr} (hN : X.N.Nodup) (h1 : PD X T Δ e1 d1) (h2 : PR X T Δ e2 (.own (.lst xs))) (h3 : PD X T Δ e3 d3) (k : ∀ l pg, PGsD X T (Δ.set i (some (.own l false (.lst [d1, refD pg, d3])))) pg xs rest P) (hl : i < Δ.length := by exact of_decide_eq_true rfl) (hi : X.N[i]? = some x := by rfl)
    (hx : Loc X.env.scope x := by first | exact Or.inl rfl | exact Or.inr rfl) (hs1 : starEach [e1, e2, e3] X.env = (false, eval e1 X.env) :: starEach [e2, e3] X.env := by rfl) (hs2 : starEach [e2, e3] X.env = (false, eval e2 X.env) :: starEach [e3] X.env := by rfl) (hs3 : starEach [e3] X.env = (false, eval e3 X.env) :: starEach [] X.env := by rfl)
    (hs : swapsWith (.List [e1, e2, e3] lpos) (some (.Name x pos')) pos.line X.env = pure false := by rfl) (hf : X.fn x = true ∨ X.env.scope.names.lookup x = some .local := by first | exact .inl rfl | exact .inr rfl) : PSsD X T Δ (.Assign [.Name x pos'] (.List [e1, e2, e3] lpos) pos :: rest) P :=
  ⟨fun fm L O σ H D W tk s em pins sh I => (pss_cons (ps_set hN hi hx (pe_lst (pa_cons canE_ok (pa_cons canE_ok (pa_cons canE_ok pa_nil hs3) hs2) hs1)) hs hf) canSs_ok).run pins sh σ H D I (by
    refine h1.run fm L O σ H _ W tk s fun v1 H1 g1 s1 r1 => ?_
    refine h2.run fm L O σ H1 _ W tk s1 fun q H2 hq g2 s2 ow => ?_
    refine h3.run fm L (q :: O) σ H2 _ W tk s2 fun v3 H3 g3 s3 r3 => ?_
    obtain ⟨q1, q2, q3, q4⟩ := s1.new_apart hq
    obtain ⟨vs, hv, ra⟩ := ow
    refine ⟨by show 3 ≤ sizeLine; decide, fun p hp => ?_⟩
    have hv3 : H3 q = some (.lst vs) := g3 q _ q3 hv
    have hqp : q ≠ p := ne_of_none hv3 hp
    have ra3 : RpA X.K (mask H3 (q :: O)) vs xs := ra.mono (g3.mask s2.tO)
    have hm : mask (upd H3 p (.lst [v1, .ref q, v3])) (p :: q :: O) = mask H3 (q :: O) := mask_new hp
    have s4 := s3.hide (u := .lst [v1, .ref q, v3]) hp
    have r1' : Rp X.K (mask H3 (q :: O)) v1 d1 := r1.mono (Le.of_same fun a u e => by
      obtain ⟨e1, e2⟩ := mask_some e
      rw [mask_out fun z => (List.mem_cons.mp z).elim (fun z => by rw [z, hq] at e1; cases e1) e2]
      exact (g2.trans g3) a u (fun z => e2 (s1.tO a z)) e1)
    have ra5 : RpA X.K (mask H3 (q :: O)) [v1, .ref q, v3] [d1, refD q, d3] := .cons r1' (.cons rp_ref (.cons r3 .nil))
    have s5 : Sta X.K T fm L (p :: q :: O) (σ.set i (some (.ref p))) (upd H3 p (.lst [v1, .ref q, v3])) (Δ.set i (some (.own p false (.lst [d1, refD q, d3])))) :=
      s3.own_set hp s4 hl ⟨_, upd_same, by rw [hm]; exact ra5⟩
    refine (k p q).run fm L (p :: q :: O) _ _ D W tk s5 ⟨List.mem_cons_of_mem _ List.mem_cons_self, q3, fun z hz w => ?_, fun j l br o he => ?_, s1.fresh0 hq, vs, by rw [upd_ne hqp]; exact hv3, by rw [hm]; exact ra3⟩ em
    · have := s1.lock z hz
      rw [w, hq] at this; cases this
    · by_cases hj : i = j
      · subst hj
        rw [List.getElem?_set_self hl] at he
        cases he
        exact fun z => hqp z.symm
      · rw [getset_ne hj] at he
        exact q4 j l br o he)⟩
/-- its place in the slot's list, evaluated -/
theorem pd_ghix (i : Nat) {j : Nat} {x : Str} {k1 : Nat} {p1 p2 p3 : Pos} {l : Addr} {br : Bool} (hi : Δ[i]? = some (some (.own l br (.lst ds)))) (hj : ds[j]? = some (refD pg)) (hN : X.N[i]? = some x := by rfl) (hv : Vis X.env.scope x := by first | exact Or.inl rfl | exact Or.inr (Or.inl rfl) | exact Or.inr (Or.inr rfl))
    (hd : (x == ("__debug__" : Str)) = false := by decide) (hcd : (x == ("__classdict__" : Str)) = false := by decide) (hs : PlainIx (.Constant (.int (j : Nat)) k1 p2) := by exact fun _ _ => rfl) : PD X T Δ (.Subscript (.Name x p1) (.Constant (.int ((j : Nat) : Int)) k1 p2) p3) (refD pg) :=
  .of (pe_ix ix_seq (slot_ref i hN hv hd hcd) pe_int hs) fun fm L O σ H Q W tk s q => by
    obtain ⟨h1, h2, vs, hl, ra⟩ := s.ow hi
    obtain ⟨v, hv, rv⟩ := ra.get hj
    exact ⟨.ref l, h1, .inl ⟨l, vs, _, v, rfl, rfl, .of hl, atI_nat hv, q v H Gr.refl s rv⟩⟩
theorem Sta.gh_upd {vs : List V} {xs' : List Dt} (s : Sta K T fm L O σ H Δ) (g : Gh K T fm L O H Δ pg xs) (ra : RpA K (mask H O) vs xs') : Sta K T fm L O σ (upd H pg (.lst vs)) Δ ∧ Gh K T fm L O (upd H pg (.lst vs)) Δ pg xs' := by
  have gb : GrB T pg H (upd H pg (.lst vs)) := fun a u h1 h2 h => by rw [upd_ne h2]; exact h
  have t : TabOk T (upd H pg (.lst vs)) := fun P hP => by
    obtain ⟨ps, e, q⟩ := s.tab P hP
    exact ⟨ps, by rw [upd_ne fun (z : P = pg) => g.nT (z ▸ hP)]; exact e, q⟩
  exact ⟨s.grB g.mem g.nL g.h0 g.ne gb t (.of upd_same fun _ z => nomatch z), g.mem, g.nT, g.nL, g.ne, g.h0, vs, upd_same, by rw [mask_upd g.mem]; exact ra⟩
/-- o.append(e), o it -/
theorem pgs_append {o : Expr} {apos pos2 : Pos} (ho : PD X T Δ o (refD pg)) (he : PD X T Δ e d) (hz : xs.length < sizeLine) (k : PGsD X T Δ pg (xs ++ [d]) rest P) (hs : starEach [e] X.env = (false, eval e X.env) :: starEach [] X.env := by rfl)
    (hbase : attributeBase o "append" X.env (eval o X.env) = eval o X.env := by rfl)
    (hfew : ((backTo pos (starEach [e] X.env)).all (fun x => !x.1) && (backToKw pos (keywordEach [] X.env)).all (fun x => x.1.isSome) && decide (([e] : List Expr).length + ([] : List Keyword).length + (if ([] : List Keyword).isEmpty then 0 else 1) < 30)) = true := by rfl)
    (hline : (apos.endLine == pos.line) = true := by rfl) (hplain : (backTo pos (starEach [] X.env)).any (·.1) = false := by rfl) (hsw : swapsWith (.Call (.Attribute o "append" apos) [e] [] pos) none pos2.line X.env = pure false := by rfl) :
    PGsD X T Δ pg xs (.Expr (.Call (.Attribute o "append" apos) [e] [] pos) pos2 :: rest) P :=
  ⟨fun fm L O σ H D W tk s g em pins sh I => (pss_cons (ps_expr (pe_bm PySem.F.plainAttrs_list PySem.F.slot_list_append PySem.F.type_list_append mt_append (canE_ok (e := o)) (pa_cons canE_ok pa_nil hs) hbase hfew hline hs hplain) hsw) canSs_ok).run pins sh σ H D I (by
    refine ho.run fm L O σ H _ W tk s fun vo H0 g0 s0 r0 => ?_
    have evo := r0.ref_of
    subst evo
    have gg := g.gr s g0
    obtain ⟨vs, hv, ra⟩ := gg.at_
    refine ⟨.inl ⟨rfl, vs, .of hv⟩, he.run fm L O σ H0 _ W tk s0 fun v H1 g1 s1 r1 => ?_⟩
    have gg1 := gg.gr s0 g1
    have hv1 := g1 pg _ gg.nT hv
    have ra1 : RpA X.K (mask H1 O) vs xs := ra.mono (g1.mask s0.tO)
    refine ⟨pg, vs, v, rfl, rfl, hv1, by rw [ra1.len]; exact hz, ?_⟩
    obtain ⟨s2, gg2⟩ := s1.gh_upd gg1 (ra1.snoc r1)
    exact k.run fm L O σ _ D W tk s2 gg2 em)⟩
/-- o[i] = e, o it -/
theorem pgs_put {o ie : Expr} {n : Nat} {pos' : Pos} (he : PD X T Δ e d) (ho : PD X T Δ o (refD pg)) (hie : PD X T Δ ie (.int (n : Nat))) (hn : n < xs.length) (k : PGsD X T Δ pg (xs.set n d) rest P)
    (ha : ∀ v, assign (.Subscript o ie pos') X.env v = (do
      let ov ← holding [v] (eval o X.env)
      let iv ← holding [v, ov] (eval ie X.env)
      standAt pos'
      holding [v, ov, iv] (setItem ov iv v)
      release [v, ov, iv] []) := by intro _; rfl)
    (hs : swapsWithSole [.Subscript o ie pos'] e pos.line X.env = pure false := by rfl) (hw : swappedStores [.Subscript o ie pos'] e X.env = pure none := by rfl) (h1 : (assignEach [.Subscript o ie pos'] X.env).map (·.2) = [assign (.Subscript o ie pos') X.env] := by rfl) :
    PGsD X T Δ pg xs (.Assign [.Subscript o ie pos'] e pos :: rest) P :=
  ⟨fun fm L O σ H D W tk s g em pins sh I => (pss_cons (ps_asg canE_ok (pg_sub canE_ok canE_ok set_list ha) hs hw h1) canSs_ok).run pins sh σ H D I (by
    refine he.run fm L O σ H _ W tk s fun v H0 g0 s0 r0 => ?_
    have gg0 := g.gr s g0
    refine ho.run fm L O σ H0 _ W tk s0 fun vo H1 g1 s1 r1 => ?_
    have evo := r1.ref_of
    subst evo
    have gg1 := gg0.gr s0 g1
    refine hie.run fm L O σ H1 _ W tk s1 fun vi H2 g2 s2 r2 => ?_
    have gg2 := gg1.gr s1 g2
    obtain ⟨vs, hv, ra⟩ := gg2.at_
    have evi := r2.int_of
    subst evi
    have hnv : n < vs.length := by rw [ra.len]; exact hn
    have hix : ixN vs.length ((n : Nat) : Int) = some n := by
      unfold ixN
      have h1 : (0 : Int) ≤ ((n : Nat) : Int) := by omega
      have h2 : ((n : Nat) : Int) < vs.length := by omega
      simp [h1, h2, hnv]
    refine ⟨pg, vs, _, n, rfl, rfl, hv, hix, ?_⟩
    have rv : Rp X.K (mask H2 O) v d := r0.mono ((g1.trans g2).mask s0.tO)
    have ra' : RpA X.K (mask H2 O) (vs.set n v) (xs.set n d) := ⟨by rw [List.length_set, List.length_set]; exact ra.len, fun m x y a b => by
      by_cases hm : n = m
      · subst hm
        rw [List.getElem?_set_self hnv] at a
        rw [List.getElem?_set_self hn] at b
        cases a; cases b
        exact rv
      · rw [List.getElem?_set_ne hm] at a b
        exact ra.at_ m x y a b⟩
    obtain ⟨s3, gg3⟩ := s2.gh_upd gg2 ra'
    exact k.run fm L O σ _ D W tk s3 gg3 em)⟩
/-- x = f(.., it, ..), f reads it alone -/
theorem pgs_setV (i j : Nat) {x fx : Str} {ps : List Str} {kk : Nat} {ow : Ow} {pos' : Pos} {Fn : Ow → List Dt → Res → Prop} (hN : X.N.Nodup) (G : CalleeV X.prog X.w X.K X.mg X.base T fx kk ps j Fn) (hr : Room kk X.A) (ha : PAD X T Δ (e :: es) ds) (hj : ds[j]? = some (refD pg)) (hF : Fn (.lst xs) (ds.eraseIdx j) (.own ow))
    (k : ∀ l, PGsD X T (Δ.set i (some (.own l false ow))) pg xs rest P) (hlen : ds.length = ps.length := by rfl) (hg : Gl X fx := by rfl) (hdb : (fx == ("__debug__" : Str)) = false := by decide)
    (he : starEach (e :: es) X.env = (false, eval e X.env) :: starEach es X.env := by rfl) (hpl : (backTo pos (starEach es X.env)).any (·.1) = false := by rfl)
    (hl : i < Δ.length := by exact of_decide_eq_true rfl) (hi : X.N[i]? = some x := by rfl) (hx : Loc X.env.scope x := by first | exact Or.inl rfl | exact Or.inr rfl) {pos2 : Pos}
    (hs : swapsWith (.Call (.Name fx p) (e :: es) [] pos) (some (.Name x pos')) pos2.line X.env = pure false := by rfl) (hf : X.fn x = true ∨ X.env.scope.names.lookup x = some .local := by first | exact .inl rfl | exact .inr rfl) : PGsD X T Δ pg xs (.Assign [.Name x pos'] (.Call (.Name fx p) (e :: es) [] pos) pos2 :: rest) P := by
  obtain ⟨f, fd, g1, g2, g3, g4⟩ := G.ex
  exact ⟨fun fm L O σ H D W tk s g em pins sh I => (pss_cons (ps_set hN hi hx (pe_callS (E := WE W) g1 hr hg g2 g3 g4 (fun σ => passAt tk σ) canA_ok hdb he hpl) hs hf) canSs_ok).run pins sh σ H D I (by
    refine ha.run fm L O σ H _ W tk s fun vs H1 gr1 s1 ra => ?_
    have gg := g.gr s gr1
    obtain ⟨vj, hvj, rvj⟩ := ra.get hj
    have evj := rvj.ref_of
    subst evj
    obtain ⟨ws, hw, rw'⟩ := gg.at_
    have ra' : RpA X.K (mask H1 O) (vs.eraseIdx j) (ds.eraseIdx j) := ⟨by
      rw [List.length_eraseIdx, List.length_eraseIdx, ra.len], fun m x y a b => by
      rw [List.getElem?_eraseIdx] at a b
      by_cases hm : m < j
      · rw [if_pos hm] at a b
        exact ra.at_ m x y a b
      · rw [if_neg hm] at a b
        exact ra.at_ (m + 1) x y a b⟩
    refine ⟨by rw [ra.len]; exact hlen, O, pg, .lst xs, ds.eraseIdx j, .own ow, s1.pre, gg.mem, gg.nT, ⟨ws, hw, rw'⟩, hvj, ra', hF, ?_⟩
    intro p2 H2 hp2 gb t og on
    obtain ⟨n1, n2, n3, n4⟩ := s1.new_apart hp2
    have hgp : pg ≠ p2 := fun z => n1 (z ▸ gg.mem)
    obtain ⟨us, hu, ru⟩ := og
    have s2 : Sta X.K T fm L O σ H2 Δ := s1.grB gg.mem gg.nL gg.h0 gg.ne gb t (.of hu fun _ z => nomatch z)
    have le2 : Le (mask H1 O) (mask H2 (p2 :: O)) := Le.of_same fun a u h => by
      obtain ⟨e1, e2⟩ := mask_some h
      have q1 := ne_of_none e1 hp2
      rw [mask_out fun z => (List.mem_cons.mp z).elim q1 e2]
      exact gb a u (fun z => e2 (s1.tO a z)) (fun z => e2 (z ▸ gg.mem)) e1
    have s3 : Sta X.K T fm L (p2 :: O) σ H2 Δ := by
      refine ⟨fun P hP => List.mem_cons_of_mem _ (s2.tO P hP), t, fun a ha => ?_, fun a ha => List.mem_cons_of_mem _ (s2.o0 a ha), s2.b0, s2.d0, fun q hq => (s1.pin q hq).mono le2, s2.keep, s2.lock, s2.len, fun m e he => ?_, s2.own, s2.sep⟩
      · rcases List.mem_cons.mp ha with z | z
        · rw [z]; exact on.held
        · exact s2.dom a z
      · obtain ⟨v, q1, q2⟩ := s1.slot m e he
        refine ⟨v, q1, ?_⟩
        cases e with
        | imm d => exact Rp.mono le2 q2
        | own l' br' o1 =>
          obtain ⟨w1, w2, w3⟩ := q2
          exact ⟨w1, List.mem_cons_of_mem _ w2, w3.mono le2 fun u hu => gb l' u (s1.own m l' br' o1 he).1 (gg.ne m l' br' o1 he) hu⟩
    have hm2 : H p2 = none := gr1.back n3 hp2
    refine (k p2).run fm L (p2 :: O) _ H2 D W tk (s1.own_set hp2 s3 hl on) ⟨List.mem_cons_of_mem _ gg.mem, gg.nT, gg.nL, fun m l br o he => ?_, gg.h0, us, hu, ru⟩ em
    by_cases hm : i = m
    · subst hm
      rw [List.getElem?_set_self hl] at he
      cases he
      exact fun z => hgp z.symm
    · rw [getset_ne hm] at he
      exact gg.ne m l br o he)⟩
/-- x[i] = e, x a list of one's own -/
theorem psd_lput (i : Nat) {x : Str} {ie : Expr} {n : Nat} {p1 pos' : Pos} {l : Addr} {br : Bool} (hi : Δ[i]? = some (some (.own l br (.lst xs)))) (he : PD X T Δ e d) (hie : PD X T Δ ie (.int (n : Nat))) (hn : n < xs.length) (h : P.nx (Δ.set i (some (.own l br (.lst (xs.set n d))))))
    (hN : X.N[i]? = some x := by rfl) (hv : Vis X.env.scope x := by first | exact Or.inl rfl | exact Or.inr (Or.inl rfl) | exact Or.inr (Or.inr rfl)) (hd : (x == ("__debug__" : Str)) = false := by decide) (hcd : (x == ("__classdict__" : Str)) = false := by decide)
    (ha : ∀ v, assign (.Subscript (.Name x p1) ie pos') X.env v = (do
      let ov ← holding [v] (eval (.Name x p1) X.env)
      let iv ← holding [v, ov] (eval ie X.env)
      standAt pos'
      holding [v, ov, iv] (setItem ov iv v)
      release [v, ov, iv] []) := by intro _; rfl)
    (hs : swapsWithSole [.Subscript (.Name x p1) ie pos'] e pos.line X.env = pure false := by rfl) (hw : swappedStores [.Subscript (.Name x p1) ie pos'] e X.env = pure none := by rfl) (h1 : (assignEach [.Subscript (.Name x p1) ie pos'] X.env).map (·.2) = [assign (.Subscript (.Name x p1) ie pos') X.env] := by rfl) :
    PSD X T Δ (.Assign [.Subscript (.Name x p1) ie pos'] e pos) P :=
  .of (ps_asg canE_ok (pg_sub (slot_ref i hN hv hd hcd) canE_ok set_list ha) hs hw h1) fun fm L O σ H D W tk s em => he.run fm L O σ H _ W tk s fun v H0 g0 s0 r0 => by
    obtain ⟨h1, h2, _⟩ := s0.ow hi
    refine ⟨.ref l, h1, hie.run fm L O σ H0 _ W tk s0 fun vi H2 g2 s2 r2 => ?_⟩
    obtain ⟨_, _, vs, hv, ra⟩ := s2.ow hi
    have evi := r2.int_of
    subst evi
    have hnv : n < vs.length := by rw [ra.len]; exact hn
    have hix : ixN vs.length ((n : Nat) : Int) = some n := by
      unfold ixN
      have h1 : (0 : Int) ≤ ((n : Nat) : Int) := by omega
      have h2 : ((n : Nat) : Int) < vs.length := by omega
      simp [h1, h2, hnv]
    refine ⟨l, vs, _, n, rfl, rfl, hv, hix, em.nx O σ _ _ h ?_⟩
    have rv : Rp X.K (mask H2 O) v d := r0.mono (g2.mask s0.tO)
    refine s2.own_upd hi ⟨_, upd_same, by rw [List.length_set, List.length_set]; exact ra.len, fun m x y a b => ?_⟩
    by_cases hm : n = m
    · subst hm
      rw [List.getElem?_set_self hnv] at a
      rw [List.getElem?_set_self hn] at b
      cases a; cases b
      exact rv
    · rw [List.getElem?_set_ne hm] at a b
      exact ra.at_ m x y a b
/-- x in (.., whole numbers) -/
theorem opd_inT {i : Int} {is : List Int} : OpD X T (rIn X.K false) (.int i) (.tup (is.map .int)) (.val (.bl (is.any fun j => decide (j = i)))) := fun fm L O σ H Δ Q W x y tk s r1 r2 q => by
  have e1 := r1.int_of
  subst e1
  obtain ⟨a, vs, e, ha, ra⟩ := r2.tup_of
  subst e
  have hvs : vs = is.map V.int := by
    refine List.ext_getElem? fun k => ?_
    cases hk : is[k]? with
    | none =>
      have : vs[k]? = none := by
        rw [List.getElem?_eq_none_iff] at hk ⊢
        rw [ra.len, List.length_map]; exact hk
      rw [this, List.getElem?_map, hk]; rfl
    | some z =>
      obtain ⟨v, e1, rv⟩ := ra.get (d := .int z) (by rw [List.getElem?_map, hk]; rfl)
      rw [e1, rv.int_of, List.getElem?_map, hk]; rfl
  subst hvs
  refine ⟨a, _, rfl, .inr (.of (s.out ha)), rfl, ?_, ?_⟩
  · exact List.all_eq_true.mpr fun v hv => by
      obtain ⟨j, _, rfl⟩ := List.mem_map.mp hv
      rfl
  · have e : inV (.int i) (is.map V.int) = is.any fun j => decide (j = i) := by
      unfold inV
      rw [List.any_map]
      congr 1
    show Q (.bl (inV (.int i) (is.map V.int))) H
    rw [e]
    exact q _ H Gr.refl s (.bl _)
end
end DL

set_option Elab.async false
set_option linter.all false
set_option maxRecDepth 100000
set_option maxHeartbeats 2000000
/-! DL24: isinstance of an instance; a new list cleared; powers; an if that ends a ghost. -/
namespace DL
open PySem PySem.Spec L2
structure InsTy (K : PySem.W.Frag) (C : Addr) : Prop where
  cl : Cls K C
  ha : PySem.W.findIn K (.ref C) "__class__" = some (some (.builtin "object.__class__"))
  hn : PySem.W.specialIn K (.builtin "object.__class__") "__get__" = some (some (.builtin "getset_descriptor.__get__"))
  ht : PySem.W.takesIn K (.builtin "object.__class__") = some true
  hm : PySem.W.mroIn K C (.type "object") = some true
section
variable {X : Cx} {T : List Addr} {Δ : DEnv} {e a b c o : Expr} {es : List Expr} {d d1 d2 d3 : Dt} {ds xs : List Dt} {r : Res} {pos p : Pos} {st : Stmt} {rest sts : List Stmt} {P : DE} {pg : Addr}
theorem pd_isiI {m : String} {C : Addr} {ns : List Str} {k : Bool} (hI : InsTy X.K C) (hm : X.mg "isinstance" = none) (ha : PD X T Δ a (.ins C ns ds)) (hb : PD X T Δ b (.ty m)) (hk : PySem.W.kitOne X.K (.ref C) (.type m) = some k) (hg : Gl X "isinstance" := by rfl)
    (he : starEach [a, b] X.env = (false, eval a X.env) :: starEach [b] X.env := by rfl) (he2 : starEach [b] X.env = (false, eval b X.env) :: starEach [] X.env := by rfl) (hpl : (backTo pos (starEach [b] X.env)).any (·.1) = false := by rfl) :
    PD X T Δ (.Call (.Name "isinstance" p) [a, b] [] pos) (.bl k) :=
  pr_callB call_isi (fun fm L O σ H Δ Q W vs tk s ra q => by
    obtain ⟨v, w, rfl, rv, rw'⟩ := ra.two
    refine ⟨v, w, .ref C, .type m, k, rfl, ?_, ?_, hk, q _ H Gr.refl s (.bl _)⟩
    · rw [rw'.ty_of]
      exact .ty m
    · cases rv with
      | ins g _ _ _ => exact .base (.ins (mask_some g).1 hI.cl hI.ha hI.hn hI.ht hI.hm)) hm (by decide +kernel) (pad_cons ha (pad_cons hb pad_nil he2) he) hg (he := he) (hpl := hpl)
/-- o.clear(), o a new list -/
theorem psd_clearE {apos : Pos} (ho : PR X T Δ o (.own (.lst xs))) (h : P.nx Δ) (hbase : attributeBase o "clear" X.env (eval o X.env) = eval o X.env := by rfl) (hline : (apos.endLine == pos.line) = true := by rfl) {pos2 : Pos} (hsw : swapsWith (.Call (.Attribute o "clear" apos) [] [] pos) none pos2.line X.env = pure false := by rfl) :
    PSD X T Δ (.Expr (.Call (.Attribute o "clear" apos) [] [] pos) pos2) P :=
  .of (ps_expr (pe_bm0 PySem.F.plainAttrs_list PySem.F.slot_list_clear PySem.F.type_list_clear mt_clear (canE_ok (e := o)) hbase hline) hsw) fun fm L O σ H D W tk s em => ho.run fm L O σ H _ W tk s fun q H1 hq g s1 ow => by
    obtain ⟨vs, hv, ra⟩ := ow
    obtain ⟨q1, q2, q3, q4⟩ := s.new_apart hq
    refine ⟨.inl ⟨rfl, vs, .of hv⟩, q, vs, rfl, rfl, hv, em.nx (q :: O) σ _ Δ h ?_⟩
    refine s1.grB List.mem_cons_self (fun z hz w => ?_) (s.fresh0 hq) (fun i l br o he => q4 i l br o he) (fun a u h1 h2 h => by rw [upd_ne h2]; exact h) (fun P hP => ?_) (.of upd_same fun _ z => nomatch z)
    · have := s.lock z hz
      rw [w, hq] at this; cases this
    · obtain ⟨ps, e, qq⟩ := s1.tab P hP
      exact ⟨ps, by rw [upd_ne fun (z : P = q) => q3 (z ▸ hP)]; exact e, qq⟩
/-- if c: A, c true, the ghost ends within A -/
theorem pgs_ifYes {A : List Stmt} (M : DEnv → Prop) (hc : PTD X T Δ c true) (hA : PGsD X T Δ pg xs A { P with nx := M }) (k : ∀ Δ', M Δ' → PSsD X T Δ' rest P) : PGsD X T Δ pg xs (.If c A [] pos :: rest) P :=
  ⟨fun fm L O σ H D W tk s g em pins sh I => (pss_cons (ps_if canT_ok (canSs_ok (st := A)) pss_nil) canSs_ok).run pins sh σ H D I (hc.run fm L O σ H _ W tk s fun H2 g2 s2 => by
    show canSs X A _ σ H2
    exact hA.run fm L O σ H2 { D with nx := canSs X rest D } W tk s2 (g.gr s g2) ⟨fun O' σ' H' Δ' hM s' => (k Δ' hM).run fm L O' σ' H' D W tk s' em, em.rt, em.ro, em.bk, em.ct, em.ex⟩)⟩
end
end DL

set_option Elab.async false
set_option linter.all false
set_option maxRecDepth 100000
set_option maxHeartbeats 4000000
/-! DL25: sorted(a dict whose keys are (whole number, sign, whole number)). -/
namespace LM
def lexT (p q : Arw) : Bool := if p.1 = q.1 then (if p.2.1 = q.2.1 then decide (p.2.2 < q.2.2) else decide (p.2.1 < q.2.1)) else decide (p.1 < q.1)
theorem lexT_iff {p q : Arw} : lexT p q = true ↔ p.1 < q.1 ∨ (p.1 = q.1 ∧ (p.2.1 < q.2.1 ∨ (p.2.1 = q.2.1 ∧ p.2.2 < q.2.2))) := by
  unfold lexT
  by_cases e : p.1 = q.1
  · rw [if_pos e]
    by_cases e2 : p.2.1 = q.2.1
    · rw [if_pos e2, decide_eq_true_eq]; omega
    · rw [if_neg e2, decide_eq_true_eq]; omega
  · rw [if_neg e, decide_eq_true_eq]; omega
theorem lexT_no {p q : Arw} : lexT p q = false ↔ ¬ (p.1 < q.1 ∨ (p.1 = q.1 ∧ (p.2.1 < q.2.1 ∨ (p.2.1 = q.2.1 ∧ p.2.2 < q.2.2)))) := by
  rw [← lexT_iff]
  cases lexT p q <;> simp
theorem lexT_eq {p q : Arw} (h1 : lexT p q = false) (h2 : lexT q p = false) : p = q := by
  have a := lexT_no.mp h1
  have b := lexT_no.mp h2
  obtain ⟨p1, p2, p3⟩ := p
  obtain ⟨q1, q2, q3⟩ := q
  simp only at a b
  have e1 : p1 = q1 := by omega
  have e2 : p2 = q2 := by omega
  have e3 : p3 = q3 := by omega
  rw [e1, e2, e3]
theorem lexT_tot (p q : Arw) : lexT p q = false ∨ lexT q p = false := by
  rcases Bool.eq_false_or_eq_true (lexT p q) with h | h
  · refine .inr (lexT_no.mpr ?_)
    have := lexT_iff.mp h
    omega
  · exact .inl h
theorem lexT_tr {x y z : Arw} (h1 : lexT y x = false) (h2 : lexT z y = false) : lexT z x = false := by
  have a := lexT_no.mp h1
  have b := lexT_no.mp h2
  refine lexT_no.mpr ?_
  omega
abbrev Up (l : List Arw) : Prop := l.Pairwise fun x y => lexT y x = false
def sortA (l : List Arw) : List Arw := l.mergeSort fun x y => !lexT y x
theorem sortA_up (l : List Arw) : Up (sortA l) := by
  have h := List.pairwise_mergeSort (le := fun x y : Arw => !lexT y x) (fun a b c h1 h2 => by
    simp only [Bool.not_eq_true'] at *
    exact lexT_tr h1 h2) (fun a b => by
    rcases lexT_tot a b with h | h
    · simp [h]
    · simp [h]) l
  exact h.imp fun q => by simpa using q
theorem sortA_perm (l : List Arw) : (sortA l).Perm l := List.mergeSort_perm l _
theorem up_uniq : ∀ {l m : List Arw}, Up l → Up m → l.Perm m → l = m
  | [], m, _, _, h => (List.Perm.eq_nil h.symm).symm
  | x :: l, [], _, _, h => absurd h.length_eq (by simp)
  | x :: l, y :: m, hl, hm, h => by
    have e : x = y := by
      refine lexT_eq ?_ ?_
      · rcases List.mem_cons.mp (h.mem_iff.mp (List.mem_cons_self (a := x) (l := l))) with e | hx
        · rw [e]; exact lexT_no.mpr (by omega)
        · exact (List.pairwise_cons.mp hm).1 x hx
      · rcases List.mem_cons.mp (h.mem_iff.mpr (List.mem_cons_self (a := y) (l := m))) with e | hy
        · rw [e]; exact lexT_no.mpr (by omega)
        · exact (List.pairwise_cons.mp hl).1 y hy
    subst e
    rw [up_uniq (List.pairwise_cons.mp hl).2 (List.pairwise_cons.mp hm).2 h.cons_inv]
theorem sortA_of {l m : List Arw} (hu : Up l) (hp : l.Perm m) : sortA m = l := up_uniq (sortA_up m) hu ((sortA_perm m).trans hp.symm)
theorem sortA_len (l : List Arw) : (sortA l).length = l.length := (sortA_perm l).length_eq
theorem mem_sortA {l : List Arw} {a : Arw} : a ∈ sortA l ↔ a ∈ l := (sortA_perm l).mem_iff
theorem sortA_nodup {l : List Arw} (h : l.Nodup) : (sortA l).Nodup := (sortA_perm l).nodup_iff.mpr h
end LM
namespace SrtO
open PySem PySem.Spec PyProof.Rows L2
section
variable {prog : Program} {w : World} {A : Around} {s : Shared}
def IsTri (h : Heap) (v : Value) (k : LM.Arw) : Prop := ∃ a o t u r n, v = .ref a ∧ h.get? a = some o ∧ o.cls = .type "tuple" ∧ o.data = .seq #[.int k.1 t, .str ⟨[k.2.1].toArray⟩ u, .int k.2.2 r] n
theorem IsTri.keeps {h h' : Heap} {v : Value} {k : LM.Arw} (p : IsTri h v k) (q : ∀ b o, h.get? b = some o → o.cls = .type "tuple" → h'.get? b = some o) : IsTri h' v k := by
  obtain ⟨a, o, t, u, r, n, e, ho, hc, hd⟩ := p
  exact ⟨a, o, t, u, r, n, e, q _ _ ho hc, hc, hd⟩
theorem tri_firsts {h : Heap} {k : Value → LM.Arw} : ∀ {vs : List Value}, (∀ v ∈ vs, IsTri h v (k v)) → ∃ fs : List Value, PySem.W.KatTups h vs fs ∧ fs.length = vs.length ∧ ∀ f ∈ fs, ∃ x t, f = Value.int x t
  | [], _ => ⟨[], PySem.W.KatTups.nil, rfl, fun _ hm => by simp at hm⟩
  | v :: vs, hp => by
    obtain ⟨fs, h1, h2, h3⟩ := tri_firsts (vs := vs) fun v' hm => hp v' (List.mem_cons_of_mem _ hm)
    obtain ⟨a, o, t, u, r, n, e, ho, hc, hd⟩ := hp v (List.mem_cons_self ..)
    generalize hk : k v = kv at hd
    subst e
    refine ⟨.int kv.1 t :: fs, PySem.W.KatTups.cons ho hc hd rfl h1, by rw [List.length_cons, List.length_cons, h2], fun f hm => ?_⟩
    rcases List.mem_cons.mp hm with rfl | hm
    · exact ⟨kv.1, t, rfl⟩
    · exact h3 f hm
theorem swo_tri (k : Value → LM.Arw) : Swo fun v u => LM.lexT (k v) (k u) := by
  refine ⟨fun x y h => ?_, fun x y z h1 h2 => LM.lexT_tr h1 h2⟩
  have a := LM.lexT_iff.mp h
  refine LM.lexT_no.mpr ?_
  omega
theorem sign_eq (g g' : Nat) : ((⟨[g].toArray⟩ : PySem.Str) == ⟨[g'].toArray⟩) = decide (g = g') := by
  rw [Bool.eq_iff_iff, beq_iff_eq, decide_eq_true_eq]
  constructor
  · intro h
    injection h with h
    have := congrArg Array.toList h
    simpa using this
  · intro h
    rw [h]
theorem sign_lt (g g' : Nat) : decide ((⟨[g].toArray⟩ : PySem.Str).cps.toList < (⟨[g'].toArray⟩ : PySem.Str).cps.toList) = decide (g < g') := by
  refine decide_eq_decide.mpr ?_
  show ([g] : List Nat) < [g'] ↔ _
  constructor
  · intro h
    rcases List.cons_lt_cons_iff.mp h with h | ⟨_, h⟩
    · exact h
    · cases h
  · exact fun h => List.cons_lt_cons_iff.mpr (.inl h)
theorem tri_cmp {vs : List Value} {k : Value → LM.Arw} (hp : ∀ v ∈ vs, IsTri s.heap v (k v)) : Cmp prog w A s (tuples' true) (fun p => p.1 ∈ vs) (lt2 fun v u => LM.lexT (k v) (k u)) := by
  intro p q hm hm'
  have h1 := hp _ hm
  have h2 := hp _ hm'
  show wpAny (model prog w) A (keyLt' (tuples' true) p.1 q.1) (fun r s' => s' = s ∧ r = LM.lexT (k p.1) (k q.1)) (fun _ _ => False) s
  unfold LM.lexT
  generalize k p.1 = kp at h1 ⊢
  generalize k q.1 = kq at h2 ⊢
  obtain ⟨x, g, y⟩ := kp
  obtain ⟨x', g', y'⟩ := kq
  obtain ⟨a, o, t, u, r, n, e, ho, hc, hd⟩ := h1
  obtain ⟨a', o', t', u', r', n', e', ho', hc', hd'⟩ := h2
  rw [e, e']
  refine PySem.W.kat_lt ho hd ho' hd' ?_
  show PySem.W.KatLex prog w A true (decide (3 < 3)) _ [(.int x t, .int x' t'), (.str ⟨[g].toArray⟩ u, .str ⟨[g'].toArray⟩ u'), (.int y r, .int y' r')] 0 s
  refine PySem.W.kat_cons (SeqAt.EqAt.int_int x t x' t' prog w _ _ ?_)
  refine PySem.W.kat_go (fun e1 => ?_) (fun e1 => ?_)
  · have ex : x = x' := by simpa using e1
    refine PySem.W.kat_yes (PySem.W.kat_cons (SeqAt.EqAt.str_str _ u _ u' prog w _ _ ?_))
    refine PySem.W.kat_go (fun e2 => ?_) (fun e2 => ?_)
    · have eg : g = g' := by rw [sign_eq] at e2; exact of_decide_eq_true e2
      refine PySem.W.kat_yes (PySem.W.kat_cons (SeqAt.EqAt.int_int y r y' r' prog w _ _ ?_))
      refine PySem.W.kat_go (fun e3 => ?_) (fun e3 => ?_)
      · have ey : y = y' := by simpa using e3
        have e4 : (if x = x' then (if g = g' then decide (y < y') else decide (g < g')) else decide (x < x')) = false := by
          rw [if_pos ex, if_pos eg, ey]
          exact decide_eq_false (Int.lt_irrefl _)
        exact PySem.W.kat_yes (PySem.W.kat_nil ⟨rfl, e4.symm⟩)
      · have e4 : (if x = x' then (if g = g' then decide (y < y') else decide (g < g')) else decide (x < x')) = decide (y < y') := by rw [if_pos ex, if_pos eg]
        refine PySem.W.kat_no (PySem.W.kat_one _ _ (PyProof.Rows.lt_int ?_))
        exact (show s = s ∧ decide (y < y') = (if x = x' then (if g = g' then decide (y < y') else decide (g < g')) else decide (x < x')) from ⟨rfl, e4.symm⟩)
    · have eg : ¬ g = g' := by rw [sign_eq] at e2; exact of_decide_eq_false e2
      have e4 : (if x = x' then (if g = g' then decide (y < y') else decide (g < g')) else decide (x < x')) = decide (g < g') := by rw [if_pos ex, if_neg eg]
      refine PySem.W.kat_no (PySem.W.kat_one _ _ (PyProof.Rows.lt_str ?_))
      exact (show s = s ∧ decide ((⟨[g].toArray⟩ : PySem.Str).cps.toList < (⟨[g'].toArray⟩ : PySem.Str).cps.toList) = (if x = x' then (if g = g' then decide (y < y') else decide (g < g')) else decide (x < x')) from ⟨rfl, by rw [sign_lt, e4]⟩)
  · have ex : ¬ x = x' := by simpa using e1
    have e3 : (if x = x' then (if g = g' then decide (y < y') else decide (g < g')) else decide (x < x')) = decide (x < x') := if_neg ex
    exact PySem.W.kat_no (oneLt_int ⟨rfl, e3.symm⟩)
theorem tri_sortable {a : Addr} {vs : List Value} {k : Value → LM.Arw} (h0 : 0 < vs.length) (hp : ∀ v ∈ vs, IsTri s.heap v (k v)) (ha : ∀ o, s.heap.get? a = some o → o.cls ≠ .type "tuple") : SortableO prog w A s a vs fun v u => LM.lexT (k v) (k u) := by
  intro h' keep
  have hp' : ∀ v ∈ vs, IsTri h' v (k v) := fun v hm => (hp v hm).keeps fun b o e c => keep b o (fun z => by subst z; exact ha o e c) e
  obtain ⟨fs, h1, h2, h3⟩ := tri_firsts hp'
  refine ⟨tuples' true, fun Q E hq => ?_, tri_cmp hp'⟩
  refine PySem.W.kat_kind (T := .type "int") h1 (by omega) (fun f hm => ?_) (by rfl) ?_
  · obtain ⟨x, t, rfl⟩ := h3 f hm
    exact PySem.W.Looks.now
  · have e : (Value.type "int" != Value.type "tuple") = true := by first | decide +kernel | rfl | decide
    rw [e]
    exact hq
end
end SrtO
namespace L2
open PySem PySem.Spec PyProof.Rows
/-- what a tuple's address holds -/
def triOf (H : Hp) : Value → LM.Arw
  | .ref b => match H b with
    | some (.tup [.int x, .str z, .int y]) => (x, z.cps.toList.headD 0, y)
    | _ => (0, 0, 0)
  | _ => (0, 0, 0)
theorem triOf_eq {H : Hp} {b : Addr} {k : LM.Arw} (h : H b = some (.tup ((LM.akey k).map kV))) : triOf H (.ref b) = k := by
  show (match H b with
    | some (.tup [.int x, .str z, .int y]) => (x, z.cps.toList.headD 0, y)
    | _ => (0, 0, 0)) = k
  rw [h]
  rfl
theorem paired_at {α β : Type} {R : α → β → Prop} : ∀ {xs : List α} {ys : List β}, Paired R xs ys → ∀ (i : Nat) (y : β), ys[i]? = some y → ∃ x, xs[i]? = some x ∧ R x y
  | _, _, .nil, i, y, h => by simp at h
  | _, _, .cons hx t, 0, y, h => by simp at h; subst h; exact ⟨_, rfl, hx⟩
  | _, _, .cons hx t, i + 1, y, h => by
    obtain ⟨x, a, b⟩ := paired_at t i y (by simpa using h)
    exact ⟨x, by simpa using a, b⟩
def rSortedDT : List V → Hp → VK → Prop := fun xs H Q => ∃ (d : Addr) (kvs : List (List Key × V)) (ks : List LM.Arw), xs = [V.ref d] ∧ Rd H d (.dT kvs) ∧ kvs.map (·.1) = ks.map LM.akey ∧
  ∀ bs p, H p = none → Paired (fun y b => H b = some (.tup ((LM.akey y).map kV))) (LM.sortA ks) bs → Q (.ref p) (upd H p (.lst (bs.map V.ref)))
theorem paired_of {α β : Type} {R : α → β → Prop} : ∀ {xs : List α} {ys : List β}, xs.length = ys.length → (∀ (i : Nat) (x : α) (y : β), xs[i]? = some x → ys[i]? = some y → R x y) → Paired R xs ys
  | [], [], _, _ => .nil
  | [], _ :: _, h, _ => by simp at h
  | _ :: _, [], h, _ => by simp at h
  | x :: xs, y :: ys, h, f => .cons (f 0 x y rfl rfl) (paired_of (by simpa using h) fun i a b h1 h2 => f (i + 1) a b (by simpa using h1) (by simpa using h2))
section
variable {X : Cx}
theorem cr_sortedDT (hcalm : X.calm = true) : CallR X (.builtin "sorted") rSortedDT := by
  intro pins s σ H xs us Q I r h
  obtain ⟨d, kvs, ks0, rfl, hd, hks, q⟩ := h
  obtain ⟨u, rfl, rx⟩ := r.one
  cases rx
  obtain ⟨z, hs, ks, pr, o, es, ep, ho, hx, hdt, he, hn⟩ := (show ObjOk X.prog X.w H s.heap d (.dT kvs) from hd.ok I.hok)
  have l1 : es.size = ks.length := size_of_entries he
  have l2 : kvs.length = ks.length := Paired.length pr
  have ik := isKeys_of pr
  refine Calls.call_function_entry PyProof.Rows.kind_sorted PyProof.Rows.plain_sorted PyProof.Rows.entry_sorted (PyProof.Rows.args_sorted1 _) ?_
  unfold Builtin.«sorted»
  refine wpAny_bind (m := checkCount "sorted" 1 1 _) (wpAny_pure ?_)
  refine wpAny_bind (PySem.W.kdu_collect (A := X.A.in1) (kdl_raw hs hx hdt) (I.ok.hd hcalm) ho (by omega) fun h' tk acc hk it => ?_)
  have ea : acc.toList = ks.map fun x => Value.ref x.2.1 := by
    have hl : acc.toList.length = ks.length := by rw [Array.length_toList, it.1]; exact l1
    apply List.ext_getElem?
    intro j
    rw [List.getElem?_map]
    cases hj : acc.toList[j]? with
    | none =>
      have h1 := List.getElem?_eq_none_iff.mp hj
      rw [List.getElem?_eq_none (by omega)]
      all_goals rfl
    | some v =>
      obtain ⟨en, hen, hv⟩ := it.2 j v (by rw [← Array.getElem?_toList]; exact hj)
      have qe := entry_at he j
      rw [hen] at qe
      cases hb : ks[j]? with
      | none =>
        rw [hb] at qe
        exact nomatch (show some en = none from qe)
      | some b =>
        rw [hb] at qe
        have e2 : en = entryOfKey (tupleKind (mixKind X.prog X.w)) b := Option.some.inj qe
        rw [hv, e2]
        all_goals rfl
  have eb : acc.toList = (ks.map fun x => x.2.1).map Value.ref := by rw [ea, List.map_map]; all_goals rfl
  generalize (ks.map fun x => x.2.1) = bs at ik eb
  rw [eb]
  have lb : bs.length = kvs.length := (Paired.length ik).symm
  have lk : ks0.length = kvs.length := by have := congrArg List.length hks; simpa using this.symm
  have hat : ∀ (i : Nat) (b : Addr), bs[i]? = some b → ∃ k, ks0[i]? = some k ∧ H b = some (.tup ((LM.akey k).map kV)) := fun i b hb => by
    obtain ⟨kv, hkv, hH⟩ := paired_at ik i b hb
    have e1 : (kvs.map (·.1))[i]? = some kv.1 := by rw [List.getElem?_map, hkv]; rfl
    rw [hks, List.getElem?_map] at e1
    cases hk0 : ks0[i]? with
    | none => rw [hk0] at e1; cases e1
    | some k =>
      rw [hk0] at e1
      have e2 : LM.akey k = kv.1 := Option.some.inj e1
      exact ⟨k, rfl, by rw [e2]; exact hH⟩
  have I1 : Inv X pins σ H { s with heap := h', toks := tk } := I.kept hk
  have htri : ∀ v ∈ bs.map Value.ref, SrtO.IsTri h' v (triOf H v) := fun v hv => by
    obtain ⟨b, hb, rfl⟩ := List.mem_map.mp hv
    obtain ⟨i, hi⟩ := List.mem_iff_getElem?.mp hb
    obtain ⟨k, _, hH⟩ := hat i b hi
    rw [triOf_eq hH]
    obtain ⟨_, its, r2, o2, ho2, hc2, n2, hd2⟩ := I1.hok _ _ hH
    match its, r2 with
    | [u1, u2, u3], .cons q1 (.cons q2 (.cons q3 .nil)) =>
      obtain ⟨t1, rfl⟩ := q1
      obtain ⟨t2, rfl⟩ := q2
      obtain ⟨t3, rfl⟩ := q3
      exact ⟨b, o2, t1, t2, t3, n2, rfl, ho2, hc2, hd2⟩
  have hz : (bs.map Value.ref).length ≤ sizeLine := by rw [List.length_map, lb]; exact z
  refine wpAny_bind (wpAny_newList ?_ hz)
  have hoL : (h'.push (seqObj "list" (bs.map Value.ref).toArray 0)).get? h'.objs.size = some (seqObj "list" (bs.map Value.ref).toArray 0) := Heap.get?_push_size _ rfl
  show wpAny _ _ _ _ _ { s with heap := h'.push (seqObj "list" (bs.map Value.ref).toArray 0), toks := tk }
  refine wpAny_bind (wpAny_holding (wpAny_call_entry PyProof.Rows.slot_list_sort ⟨_, hoL, rfl⟩ PyProof.Rows.entry_list_sort
    (SrtO.list_sort_ord (s := { s with heap := h'.push (seqObj "list" (bs.map Value.ref).toArray 0), toks := tk }) (SrtO.swo_tri (triOf H)) hoL hz (fun h2 => ?_) fun out g1 g2 => ⟨_, rfl, ?_⟩) (PyProof.Rows.args_list_sort _)))
  · refine SrtO.tri_sortable (by omega) (fun v hv => (htri v hv).keeps fun b o e _ => Heap.get?_push_of_some _ e) fun o e => ?_
    have e' : some o = some (seqObj "list" (bs.map Value.ref).toArray 0) := e.symm.trans hoL
    cases e'
    intro c
    exact absurd (Value.type.inj c) (by decide)
  · obtain ⟨e', he'⟩ := PyProof.Rows.sortedHeap_at (vs := bs.map Value.ref) (out := out.toArray) hoL
    have hp := g2.perm
    have refs : ∀ v ∈ out, ∃ b ∈ bs, v = Value.ref b := fun v hv => by
      obtain ⟨b, hb, e⟩ := List.mem_map.mp (hp.mem_iff.mp hv)
      exact ⟨b, hb, e.symm⟩
    obtain ⟨bs2, hbs2⟩ : ∃ bs2 : List Addr, out = bs2.map Value.ref := by
      clear g1 g2 hp he' 
      induction out with
      | nil => exact ⟨[], rfl⟩
      | cons v rest ih =>
        obtain ⟨b, _, rfl⟩ := refs v List.mem_cons_self
        obtain ⟨r2, e⟩ := ih fun v hv => refs v (List.mem_cons_of_mem _ hv)
        exact ⟨b :: r2, by rw [e]; rfl⟩
    have hperm : (out.map (triOf H)).Perm ks0 := by
      have h1 : ((bs.map Value.ref).map (triOf H)) = ks0 := by
        refine List.ext_getElem? fun i => ?_
        rw [List.getElem?_map, List.getElem?_map]
        cases hb : bs[i]? with
        | none =>
          have : ks0[i]? = none := by
            rw [List.getElem?_eq_none_iff] at hb ⊢
            omega
          rw [this]; rfl
        | some b =>
          obtain ⟨k, hk0, hH⟩ := hat i b hb
          rw [hk0]
          show some (triOf H (.ref b)) = _
          rw [triOf_eq hH]
      rw [← h1]
      exact hp.map _
    have hup : LM.Up (out.map (triOf H)) := List.pairwise_map.mpr g1
    have hsort := LM.sortA_of hup hperm
    have hpair : Paired (fun y b => H b = some (.tup ((LM.akey y).map kV))) (LM.sortA ks0) bs2 := by
      rw [hsort, hbs2]
      refine paired_of (by simp) fun i y b h1 h2 => ?_
      rw [List.map_map, List.getElem?_map, h2] at h1
      have hb : b ∈ bs := by
        obtain ⟨b', hb', e⟩ := refs (.ref b) (by rw [hbs2]; exact List.mem_map.mpr ⟨b, List.mem_of_getElem? h2, rfl⟩)
        cases e
        exact hb'
      obtain ⟨j, hj⟩ := List.mem_iff_getElem?.mp hb
      obtain ⟨k, _, hH⟩ := hat j b hj
      have ey : y = triOf H (.ref b) := (Option.some.inj h1).symm
      rw [ey, triOf_eq hH]
      exact hH
    have hlen : (bs2.map V.ref).length ≤ sizeLine := by
      have h1 := hp.length_eq
      rw [hbs2, List.length_map] at h1
      rw [List.length_map, h1]
      exact hz
    refine wpAny_pure ⟨_, rfl, .ref h'.objs.size, upd H h'.objs.size (.lst (bs2.map V.ref)), I1.laid (t' := tk) (fun b u e => ?_) (Nat.le_refl _)
      (show ObjOk X.prog X.w _ _ _ (.lst (bs2.map V.ref)) from ⟨hlen, out, e', by rw [hbs2]; exact vals_refs bs2, he'⟩), rfl, q bs2 _ (I1.hok.fresh (Nat.le_refl _)) hpair⟩
    have hb : b < h'.objs.size := Heap.lt_size e
    rw [PyProof.Rows.sortedHeap_old (Nat.ne_of_lt hb) (by rw [size_push']; exact Nat.lt_succ_of_lt hb)]
    exact Heap.get?_push_of_some _ e
end
end L2
namespace DL
open PySem PySem.Spec L2
section
variable {X : Cx} {T : List Addr} {Δ : DEnv} {e : Expr} {p pos : Pos}
theorem pr_sortedT {ks : List LM.Arw} {ds : List Dt} (hc : X.calm = true) (hm : X.mg "sorted" = none) (ha : PD X T Δ e (.dt (ks.map LM.akey) ds)) (hg : Gl X "sorted" := by rfl)
    (he : starEach [e] X.env = (false, eval e X.env) :: starEach [] X.env := by rfl) : PR X T Δ (.Call (.Name "sorted" p) [e] [] pos) (.own (.lst ((LM.sortA ks).map LM.adt))) :=
  pr_callB (cr_sortedDT hc) (fun fm L O σ H Δ Q W vs tk s ra q => by
    obtain ⟨v, rfl, rv⟩ := ra.one
    cases rv with
    | @dt a kvs _ _ h hk hl hi =>
      have rd : Rd H a (.dT kvs) := h.elim (fun z => .inl (mask_some z).1) fun ⟨o, z⟩ => .inr ⟨o, (mask_some z).1⟩
      refine ⟨a, kvs, ks, rfl, rd, hk, fun bs p hp pr => ?_⟩
      have hm' : ∀ {b : Addr} {xs : List V}, H b = some (.tup xs) → mask H O b = some (.tup xs) := fun {b xs} hH => by
        rw [mask_out fun z => (s.dom b z).2 _ hH]
        exact hH
      refine q.lst s ⟨by rw [List.length_map, List.length_map]; exact (Paired.length pr).symm, fun i x d h1 h2 => ?_⟩ hp
      rw [List.getElem?_map] at h1 h2
      cases hb : bs[i]? with
      | none => rw [hb] at h1; cases h1
      | some b =>
        rw [hb] at h1
        cases h1
        obtain ⟨y, hy, hH⟩ := paired_at pr i b hb
        rw [hy] at h2
        cases h2
        refine .tup (xs := (LM.akey y).map kV) ?_ rfl fun j x d g1 g2 => ?_
        · exact hm' hH
        · match j, g1, g2 with
          | 0, g1, g2 => cases g1; cases g2; exact .int _
          | 1, g1, g2 => cases g1; cases g2; exact .str _
          | 2, g1, g2 => cases g1; cases g2; exact .int _) hm (by decide +kernel) (pad_cons ha pad_nil he) hg (he := he)
end
end DL

set_option Elab.async false
set_option linter.all false
set_option maxRecDepth 100000
set_option maxHeartbeats 2000000
/-! DL26: min, sum of a list of whole numbers. -/
namespace DL
open PySem PySem.Spec L2
section
variable {X : Cx} {T : List Addr} {Δ : DEnv} {e : Expr} {p pos : Pos}
theorem ints_of {K : PySem.W.Frag} {F : Hp} {vs : List V} {ns : List Int} (h : RpA K F vs (ns.map .int)) : vs = ns.map V.int := by
  refine List.ext_getElem? fun k => ?_
  cases hk : ns[k]? with
  | none =>
    have : vs[k]? = none := by
      rw [List.getElem?_eq_none_iff] at hk ⊢
      rw [h.len, List.length_map]; exact hk
    rw [this, List.getElem?_map, hk]; rfl
  | some z =>
    obtain ⟨v, e1, rv⟩ := h.get (d := .int z) (by rw [List.getElem?_map, hk]; rfl)
    rw [e1, rv.int_of, List.getElem?_map, hk]; rfl
theorem pd_minI {ns : List Int} {m : Int} (hc : X.calm = true) (hm : X.mg "min" = none) (ha : PD X T Δ e (.lst (ns.map .int))) (h1 : m ∈ ns) (h2 : ∀ y ∈ ns, m ≤ y) (hg : Gl X "min" := by rfl) (he : starEach [e] X.env = (false, eval e X.env) :: starEach [] X.env := by rfl) :
    PD X T Δ (.Call (.Name "min" p) [e] [] pos) (.int m) :=
  pr_callB (cr_min hc) (fun fm L O σ H Δ Q W vs tk s ra q => by
    obtain ⟨v, rfl, rv⟩ := ra.one
    obtain ⟨a, xs, rfl, g, rb⟩ := rv.lst_of
    have e := ints_of rb
    subst e
    refine ⟨a, ns, rfl, .of (s.out g), List.length_pos_of_mem h1, fun m' k1 k2 => ?_⟩
    have e : m' = m := by have := k2 m h1; have := h2 m' k1; omega
    rw [e]
    exact q _ H Gr.refl s (.int _)) hm (by decide +kernel) (pad_cons ha pad_nil he) hg (he := he)
theorem pd_sumI {ns : List Int} (hc : X.calm = true) (hm : X.mg "sum" = none) (ha : PD X T Δ e (.lst (ns.map .int))) (hg : Gl X "sum" := by rfl) (he : starEach [e] X.env = (false, eval e X.env) :: starEach [] X.env := by rfl) :
    PD X T Δ (.Call (.Name "sum" p) [e] [] pos) (.int ns.sum) :=
  pr_callB (cr_sum hc) (fun fm L O σ H Δ Q W vs tk s ra q => by
    obtain ⟨v, rfl, rv⟩ := ra.one
    obtain ⟨a, xs, rfl, g, rb⟩ := rv.lst_of
    have e := ints_of rb
    subst e
    exact ⟨a, ns, rfl, .of (s.out g), q _ H Gr.refl s (.int _)⟩) hm (by decide +kernel) (pad_cons ha pad_nil he) hg (he := he)
end
end DL

set_option Elab.async false
set_option linter.all false
set_option maxRecDepth 100000
set_option maxHeartbeats 2000000
/-! DL27: lists of the keys of a dict, where they are spots; data in lists of data. -/
namespace LM
open PySem PySem.Spec L2 DL
def skey (q : Int × List Nat) : List Key := [.inl q.1, .inr ⟨q.2.toArray⟩]
end LM
namespace DL
open PySem PySem.Spec L2 PyProof.Rows
section
variable {X : Cx} {T : List Addr} {Δ : DEnv} {e : Expr} {p pos : Pos}
theorem skey_of {q : Int × List Nat} : tkeyOf (LM.spD q) = some (LM.skey q) := rfl
theorem skey_inj {p q : Int × List Nat} (h : LM.skey p = LM.skey q) : p = q := by
  obtain ⟨a, l⟩ := p
  obtain ⟨b, m⟩ := q
  injection h with h1 h2
  injection h1 with h1
  injection h2 with h2 _
  injection h2 with h2
  injection h2 with h2
  have h2 : l = m := by simpa using congrArg Array.toList h2
  have h1 : a = b := h1
  rw [h1, h2]
theorem pr_listSp {ks : List (Int × List Nat)} {ds : List Dt} (hc : X.calm = true) (hm : X.mg "list" = none) (ha : PD X T Δ e (.dt (ks.map LM.skey) ds)) (hg : Gl X "list" := by rfl)
    (he : starEach [e] X.env = (false, eval e X.env) :: starEach [] X.env := by rfl) : PR X T Δ (.Call (.Name "list" p) [e] [] pos) (.own (.lst (ks.map LM.spD))) :=
  pr_callT (call_list_dT hc) (fun fm L O σ H Δ Q W vs tk s ra q => by
    obtain ⟨v, rfl, rv⟩ := ra.one
    cases rv with
    | @dt a kvs _ _ h hk hl hi =>
      have rd : Rd H a (.dT kvs) := h.elim (fun z => .inl (mask_some z).1) fun ⟨o, z⟩ => .inr ⟨o, (mask_some z).1⟩
      refine ⟨a, kvs, rfl, rd, fun p bs hp ik => ?_⟩
      have hm' : ∀ {b : Addr} {xs : List V}, H b = some (.tup xs) → mask H O b = some (.tup xs) := fun {b xs} hH => by
        rw [mask_out fun z => (s.dom b z).2 _ hH]
        exact hH
      have lk : ks.length = kvs.length := by have := congrArg List.length hk; simpa using this.symm
      refine q.lst s ⟨by rw [List.length_map, List.length_map, lk]; exact (Paired.length ik).symm, fun i x d h1 h2 => ?_⟩ hp
      rw [List.getElem?_map] at h1 h2
      cases hb : bs[i]? with
      | none => rw [hb] at h1; cases h1
      | some b =>
        rw [hb] at h1
        cases h1
        obtain ⟨kv, hkv, hH⟩ := paired_at ik i b hb
        have e1 : (kvs.map (·.1))[i]? = some kv.1 := by rw [List.getElem?_map, hkv]; rfl
        rw [hk, List.getElem?_map] at e1
        cases hy : ks[i]? with
        | none => rw [hy] at e1; cases e1
        | some y =>
          rw [hy] at h2 e1
          cases h2
          have e2 : LM.skey y = kv.1 := Option.some.inj e1
          have hH : H b = some (.tup ((LM.skey y).map kV)) := by rw [e2]; exact hH
          refine .tup (xs := (LM.skey y).map kV) ?_ rfl fun j x d g1 g2 => ?_
          · exact hm' hH
          · match j, g1, g2 with
            | 0, g1, g2 => cases g1; cases g2; exact .int _
            | 1, g1, g2 => cases g1; cases g2; exact .str _) hm (by decide +kernel) (pad_cons ha pad_nil he) hg (he := he)
theorem op_inDl (hu : X.A.units + 65 < cLine) : OpR X (compareOp .In) (rInD X.K) := op_inD hu
theorem opd_inD {n : Nat} {d1 : Dt} {l : List Dt} (hn : n + 1 ≤ 64) (g1 : gd n d1 = true) (g2 : gd (n + 1) (.lst l) = true) : OpD X T (rInD X.K) d1 (.lst l) (.val (.bl (l.any fun z => deq n z d1))) := fun fm L O σ H Δ Q W x y tk s r1 r2 q =>
  ⟨toPy n d1, l.map (toPy n), r1.dp (mask_le H O) n g1, r2.dp (mask_le H O) (n + 1) g2, gd_shaped (by omega) g1, gd_shaped hn g2, by
    rw [List.any_map]
    exact q _ H Gr.refl s (.bl _)⟩
end
end DL

set_option Elab.async false
set_option linter.all false
set_option maxRecDepth 100000
set_option maxHeartbeats 2000000
/-! LM12: spots stepped to, and what is read. -/
namespace LM
open PySem PySem.Spec L2 DL
abbrev Spt := Int × List Nat
/-! ### lists of things put once -/
def ins (l : List Spt) (q : Spt) : List Spt := if q ∈ l then l else l ++ [q]
def insAll (l qs : List Spt) : List Spt := qs.foldl ins l
theorem mem_ins {l : List Spt} {q x : Spt} : x ∈ ins l q ↔ x ∈ l ∨ x = q := by
  unfold ins
  split
  · next h => exact ⟨.inl, fun z => z.elim id fun e => e ▸ h⟩
  · rw [List.mem_append, List.mem_singleton]
theorem mem_insAll {x : Spt} : ∀ {qs l : List Spt}, x ∈ insAll l qs ↔ x ∈ l ∨ x ∈ qs
  | [], l => by simp [insAll]
  | q :: r, l => by
    show x ∈ insAll (ins l q) r ↔ _
    rw [mem_insAll (qs := r), mem_ins, List.mem_cons, or_assoc]
theorem ins_len (l : List Spt) (q : Spt) : (ins l q).length ≤ l.length + 1 := by
  unfold ins
  split
  · omega
  · simp
theorem insAll_len : ∀ (qs l : List Spt), (insAll l qs).length ≤ l.length + qs.length
  | [], l => by simp [insAll]
  | q :: r, l => by
    have := insAll_len r (ins l q)
    have := ins_len l q
    show (insAll (ins l q) r).length ≤ _
    rw [List.length_cons]
    omega
theorem insAll_app (l a b : List Spt) : insAll l (a ++ b) = insAll (insAll l a) b := List.foldl_append ..
theorem ins_nodup {l : List Spt} {q : Spt} (h : l.Nodup) : (ins l q).Nodup := by
  unfold ins
  split
  · exact h
  · next hn =>
    rw [List.nodup_append]
    exact ⟨h, by simp, fun a ha b hb e => hn (by rw [List.mem_singleton.mp hb] at e; exact e ▸ ha)⟩
theorem insAll_nodup : ∀ {qs l : List Spt}, l.Nodup → (insAll l qs).Nodup
  | [], l, h => h
  | q :: r, l, h => insAll_nodup (qs := r) (ins_nodup h)
/-- as a dict -/
def spT (l : List Spt) : List (List Key × Dt) := l.map fun q => (skey q, .bl true)
theorem spT_put (l : List Spt) (q : Spt) : putD (spT l) (skey q) (.bl true) = spT (ins l q) := by
  have hany : ((spT l).any fun kd => decide (kd.1 = skey q)) = decide (q ∈ l) := by
    unfold spT
    rw [List.any_map, Bool.eq_iff_iff, List.any_eq_true, decide_eq_true_eq]
    constructor
    · rintro ⟨x, hx, e⟩
      have := skey_inj (of_decide_eq_true e)
      exact this ▸ hx
    · intro h
      exact ⟨q, h, decide_eq_true rfl⟩
  unfold putD
  rw [hany]
  unfold ins
  by_cases h : q ∈ l
  · rw [if_pos (decide_eq_true h), if_pos h]
    unfold spT
    rw [List.map_map]
    refine List.map_congr_left fun x _ => ?_
    show (if skey x = skey q then (skey x, Dt.bl true) else (skey x, Dt.bl true)) = _
    split <;> rfl
  · rw [if_neg (by rw [decide_eq_false h]; exact Bool.false_ne_true), if_neg h]
    unfold spT
    rw [List.map_append]
    rfl
theorem spT_len (l : List Spt) : (spT l).length = l.length := List.length_map ..
theorem spT_keys (l : List Spt) : (spT l).map (·.1) = l.map skey := by
  unfold spT
  rw [List.map_map]
  rfl
/-! ### steps of many spots at once -/
def later (rs : List Rl) (qs : List Spt) : List Spt := insAll [] (qs.flatMap fun q => laters rs q.1 q.2)
theorem mem_later {rs : List Rl} {qs : List Spt} {x : Spt} : x ∈ later rs qs ↔ ∃ q ∈ qs, x ∈ laters rs q.1 q.2 := by
  unfold later
  rw [mem_insAll, List.mem_flatMap]
  simp
/-- the goal in so many steps -/
def Rch (rs : List Rl) (g : Spt) : Nat → Spt → Prop
  | 0, q => q = g
  | n + 1, q => ∃ q' ∈ laters rs q.1 q.2, Rch rs g n q'
def RchL (rs : List Rl) (g : Spt) (n : Nat) (l : List Spt) : Prop := ∃ q ∈ l, Rch rs g n q
theorem rchL_zero {rs : List Rl} {g : Spt} {l : List Spt} : RchL rs g 0 l ↔ g ∈ l := ⟨fun ⟨q, h, e⟩ => e ▸ h, fun h => ⟨g, h, rfl⟩⟩
theorem rchL_succ {rs : List Rl} {g : Spt} {n : Nat} {l : List Spt} : RchL rs g (n + 1) l ↔ RchL rs g n (later rs l) := by
  constructor
  · rintro ⟨q, h, q', h', r⟩
    exact ⟨q', mem_later.mpr ⟨q, h, h'⟩, r⟩
  · rintro ⟨q', h, r⟩
    obtain ⟨q, h1, h2⟩ := mem_later.mp h
    exact ⟨q, h1, q', h2, r⟩
def lkq (W : List (Arw × Int)) (R : Nat) (e : Int) (q : Int × List Nat) : Option Int := lkG (readFrom W R q.1 q.2) e
section
variable {many a : Int} {pl : List Nat} {rs : List Rl} {R : Nat} {e : Int} {W : List (Arw × Int)}
theorem rch_le (M : Mach many a pl rs R e W) : ∀ (n : Nat) {q : Spt}, Rch rs (a, pl) n q → ∃ v, lkq W R e q = some v ∧ v ≤ n
  | 0, q, h => ⟨0, by rw [show q = (a, pl) from h]; exact goal_read M, by omega⟩
  | n + 1, q, ⟨q', hq', h⟩ => by
    obtain ⟨v, h1, h2⟩ := rch_le M n h
    obtain ⟨r, hr, tl, e1, e2, rfl⟩ := mem_laters hq'
    obtain ⟨v', k1, k2⟩ := step_le M hr h1
    refine ⟨v', ?_, by omega⟩
    unfold lkq
    rw [e1, e2]
    exact k1
theorem read_rch (M : Mach many a pl rs R e W) : ∀ (n : Nat) {q : Spt} {v : Int}, v ≤ n → q.1 < many → lkq W R e q = some v → ∃ m : Nat, (m : Int) ≤ v ∧ Rch rs (a, pl) m q
  | n, q, v, hv, hq, h => by
    have nn := read_nn M h
    rcases step_ge M hq h with ⟨h1, h2⟩ | ⟨r, hr, tl, h1, h2, v', h3, h4⟩
    · exact ⟨0, by omega, Prod.ext h1 h2⟩
    · have nn' := read_nn M h3
      match n with
      | 0 => omega
      | n + 1 =>
        obtain ⟨m, k1, k2⟩ := read_rch M n (q := (r.t, r.p ++ tl)) (v := v') (by omega) (M.rl r hr).t1 h3
        refine ⟨m + 1, by omega, (r.t, r.p ++ tl), ?_, k2⟩
        rw [h1, h2]
        exact laters_mem hr tl
/-- what is read is the fewest steps -/
theorem read_is (M : Mach many a pl rs R e W) {q : Spt} {n : Nat} (hq : q.1 < many) (h : Rch rs (a, pl) n q) (hmin : ∀ m, m < n → ¬ Rch rs (a, pl) m q) : lkq W R e q = some (n : Int) := by
  obtain ⟨v, h1, h2⟩ := rch_le M n h
  obtain ⟨m, k1, k2⟩ := read_rch M n (v := v) h2 hq h1
  have : ¬ m < n := fun z => hmin m z k2
  rw [h1, show v = n by omega]
theorem read_more (M : Mach many a pl rs R e W) {q : Spt} {n : Nat} {v : Int} (hq : q.1 < many) (h : lkq W R e q = some v) (hmin : ∀ m, m ≤ n → ¬ Rch rs (a, pl) m q) : (n : Int) < v := by
  have nn := read_nn M h
  obtain ⟨m, k1, k2⟩ := read_rch M v.toNat (v := v) (by omega) hq h
  have : ¬ m ≤ n := fun z => hmin m z k2
  omega
end
/-! ### _law_gone -/
def goneR (rs : List Rl) (g : Spt) : Nat → Nat → List Spt → Nat × Bool
  | 0, i, _ => (i, false)
  | f + 1, i, l => if g ∈ l then (i, true) else if 40 < (later rs l).length ∨ i = 6 then (i, false) else goneR rs g f (i + 1) (later rs l)
theorem goneR_is (rs : List Rl) (g : Spt) : ∀ (f i : Nat) (l : List Spt), i + f = 7 → 1 ≤ f → ∃ k b, goneR rs g f i l = (i + k, b) ∧ (∀ m, m < k → ¬ RchL rs g m l) ∧ (b = true → RchL rs g k l) ∧ (b = false → ¬ RchL rs g k l)
  | 0, i, l, _, h => by omega
  | f + 1, i, l, hf, _ => by
    show ∃ k b, (if g ∈ l then (i, true) else if 40 < (later rs l).length ∨ i = 6 then (i, false) else goneR rs g f (i + 1) (later rs l)) = _ ∧ _
    by_cases hg : g ∈ l
    · rw [if_pos hg]
      exact ⟨0, true, rfl, fun m hm => absurd hm (Nat.not_lt_zero _), fun _ => rchL_zero.mpr hg, fun z => nomatch z⟩
    · rw [if_neg hg]
      by_cases hc : 40 < (later rs l).length ∨ i = 6
      · rw [if_pos hc]
        exact ⟨0, false, rfl, fun m hm => absurd hm (Nat.not_lt_zero _), (fun z => nomatch z), fun _ z => hg (rchL_zero.mp z)⟩
      · rw [if_neg hc]
        obtain ⟨k, b, h1, h2, h3, h4⟩ := goneR_is rs g f (i + 1) (later rs l) (by omega) (by omega)
        refine ⟨k + 1, b, by rw [h1]; congr 1; omega, fun m hm => ?_, fun z => rchL_succ.mpr (h3 z), fun z y => h4 z (rchL_succ.mp y)⟩
        cases m with
        | zero => exact fun z => hg (rchL_zero.mp z)
        | succ m => exact fun z => h2 m (by omega) (rchL_succ.mp z)
/-! ### k09's spots -/
def spotQ0 (c : Int) (sl : List Nat) : List Nat := (List.range (c / 5 % 6).toNat).map fun k => (some5 sl).getD (mixed (c / 40) k / 7 % 5).toNat 0
theorem spotQ0_len (c : Int) (sl : List Nat) : (spotQ0 c sl).length ≤ 5 := by
  unfold spotQ0
  have h0 : 0 ≤ c / 5 % 6 := Int.emod_nonneg _ (by decide)
  have h1 : c / 5 % 6 < 6 := Int.emod_lt_of_pos _ (by decide)
  simp
  omega
theorem spotQ0_sg {c : Int} {sl : List Nat} (h : Sgs sl) (h3 : sl.length = 3) : Sgs (spotQ0 c sl) := fun x hx => by
  obtain ⟨k, _, rfl⟩ := List.mem_map.mp hx
  have h0 : 0 ≤ mixed (c / 40) k / 7 % 5 := Int.emod_nonneg _ (by decide)
  have h1 : mixed (c / 40) k / 7 % 5 < 5 := Int.emod_lt_of_pos _ (by decide)
  exact sgs_getD (sgs_some5 h h3) (by show _ < 5; omega)
def spotQ (c : Int) (sl gl : List Nat) : List Nat := if c / 40 % 3 = 1 then cutD (spotQ0 c sl) none (some 2) ++ gl else spotQ0 c sl
theorem spotQ_sg {c : Int} {sl gl : List Nat} (h : Sgs sl) (h3 : sl.length = 3) (hg : Sgs gl) : Sgs (spotQ c sl gl) := by
  unfold spotQ
  split
  · exact Sgs.app (fun x hx => spotQ0_sg h h3 x (mem_cutD hx)) hg
  · exact spotQ0_sg h h3
theorem spotQ_len (c : Int) (sl gl : List Nat) : (spotQ c sl gl).length ≤ 5 + gl.length := by
  have := spotQ0_len c sl
  unfold spotQ
  split
  · rw [List.length_append]
    have := len_cutD (spotQ0 c sl) none (some 2)
    omega
  · omega
end LM

set_option Elab.async false
set_option linter.all false
set_option maxRecDepth 100000
set_option maxHeartbeats 2000000
/-! DL28: walking a dict whose keys are tuples; a display of one such pair. -/
namespace DL
open PySem PySem.Spec L2
section
variable {X : Cx} {K : PySem.W.Frag} {T : List Addr} {fm : Fm} {L : Lk} {Δ : DEnv} {P : DE} {pos : Pos}
theorem itkt_ok {q : Addr} {od : Obj} {kvs : List (List Key × V)} : ItOk K T (Itkt q od kvs) fm ((q, od, .dT kvs) :: L) (kvs.map fun kv => tkeyD kv.1) where
  go := fun O σ H Δ i s hi => ⟨s.lock _ List.mem_cons_self, by rw [List.length_map] at hi; exact hi⟩
  stop := fun O σ H Δ s => ⟨s.lock _ List.mem_cons_self, by rw [List.length_map]; exact Nat.le_refl _⟩
  yld := fun O σ H Δ i x H2 d s hd hy => by
    obtain ⟨rfl, k, v, b, e, rfl, hb⟩ := hy
    rw [List.getElem?_map, e] at hd
    cases hd
    refine ⟨Gr.refl, s.tab, .tup (xs := k.map kV) ?_ (by simp) fun j x d g1 g2 => ?_⟩
    · rw [mask_out fun z => (s.dom b z).2 _ hb]
      exact hb
    · rw [List.getElem?_map] at g1 g2
      cases h : k[j]? with
      | none => rw [h] at g1; cases g1
      | some kk =>
        rw [h] at g1 g2
        cases g1; cases g2
        exact rp_key kk
/-- for tg in d, d a dict that is data: its keys -/
theorem psd_forT {x : Str} {tg : Expr} {p1 : Pos} {body : List Stmt} {ks : List (List Key)} {ds : List Dt} (i : Nat) (po : PassesOwn (model X.prog X.w) X.A X.env X.xe) (hc : X.calm = true) (hi : Δ[i]? = some (some (.imm (.dt ks ds)))) (Iv : Nat → DEnv → Prop) (h0 : Iv 0 Δ)
    (hs : ∀ (j : Nat) (k : List Key) (Δ' : DEnv), ks[j]? = some k → Iv j Δ' → ∃ js Δ'', GD X T tg (tkeyD k) js Δ' Δ'' ∧ PSsD X T Δ'' body { P with nx := Iv (j + 1), ct := Iv (j + 1), bk := P.nx }) (hd : ∀ Δ', Iv ks.length Δ' → P.nx Δ') (hx : ∀ Δ' C, ¬ P.ex Δ' C)
    (hN : X.N[i]? = some x := by rfl) (hv : Vis X.env.scope x := by first | exact Or.inl rfl | exact Or.inr (Or.inl rfl) | exact Or.inr (Or.inr rfl)) (hdb : (x == ("__debug__" : Str)) = false := by decide) (hcd : (x == ("__classdict__" : Str)) = false := by decide)
    (hfs : ∀ y, foldedSetIterable (.Name x p1) X.env y = pure y := by intro _; rfl) : PSD X T Δ (.For tg (.Name x p1) body [] pos) P :=
  ⟨fun fm L O σ H D W tk s em pins sh I => by
    obtain ⟨v, hσ, rv⟩ := s.imm hi
    cases rv with
    | @dt q kvs _ _ hrd hk hl hitems =>
      have rdH : Rd H q (.dT kvs) := hrd.elim (fun z => .inl (mask_some z).1) fun ⟨o, z⟩ => .inr ⟨o, (mask_some z).1⟩
      have hO : q ∉ O := hrd.elim (fun z => (mask_some z).2) fun ⟨o, z⟩ => (mask_some z).2
      have nT : q ∉ T := fun z => hO (s.tO q z)
      have hitems' : (kvs.map fun kv => tkeyD kv.1) = ks.map tkeyD := by rw [← hk, List.map_map]; rfl
      have hlen : kvs.length = ks.length := by rw [← hk, List.length_map]
      -- the body of the proof, the lock laid
      have main : ∀ (w : HO) (od : Obj) (D' : Ends), H q = some w → (w = .dT kvs ∨ ∃ o, w = .frz o (.dT kvs)) → (∀ p ∈ L, p.1 = q → w = .frz od (.dT kvs) ∧ p.2 = (od, .dT kvs)) → Emb X.K T fm ((q, od, .dT kvs) :: L) P D' W →
          (tFor (iKeys (tVar i)) (canG X tg) (canSs X body)) D' σ (upd H q (.frz od (.dT kvs))) := by
        intro w od D' hw h hL emL
        have sl := s.lockd (od := od) (u := .dT kvs) rfl hw h hO hL
        refine ⟨.ref q, hσ, q, od, rfl, .inr ⟨kvs, upd_same, ?_⟩⟩
        exact for_read (P := P) (Iv := Iv) itkt_ok h0 (fun j d Δ' hj iv => by
          rw [hitems', List.getElem?_map] at hj
          cases e : ks[j]? with
          | none => rw [e] at hj; cases hj
          | some k =>
            rw [e] at hj
            cases hj
            exact hs j k Δ' e iv) (fun Δ' iv => hd Δ' (by rw [List.length_map, hlen] at iv; exact iv)) tk sl emL
      have vs := slot_ref (X := X) (pos' := p1) i hN hv hdb hcd
      rcases rdH with hp | ⟨o, hp⟩
      · refine (ps_lock (ps_for po hc (pi_keys vs) canG_ok canSs_ok hfs)).run pins sh σ H D I ⟨q, .dT kvs, hp, trivial, fun od => ?_⟩
        have h : (HO.dT kvs) = .dT kvs ∨ ∃ o, HO.dT kvs = .frz o (.dT kvs) := .inl rfl
        have un : ∀ {O' : List Addr} {σ' : St} {H' : Hp} {Δ' : DEnv}, Sta X.K T fm ((q, od, .dT kvs) :: L) O' σ' H' Δ' → Sta X.K T fm L O' σ' (upd H' q (.dT kvs)) Δ' := fun s' => s.unlockd hp rfl h nT s'
        refine main _ od _ hp h (fun p hp' z => ?_) ⟨fun O' σ' H' Δ' hp s' => ⟨s'.lock _ List.mem_cons_self, em.nx O' σ' _ Δ' hp (un s')⟩, fun O' σ' H' Δ' v d hp s' rv => ⟨s'.lock _ List.mem_cons_self, em.rt O' σ' _ Δ' v d hp (un s') (rv.mono (le_unlock rfl (s'.lock _ List.mem_cons_self) h))⟩,
            fun O' σ' H' Δ' l o hp s' hl h0 ow => ⟨s'.lock _ List.mem_cons_self, em.ro O' σ' _ Δ' l o hp (un s') hl h0 (ow.mono (le_unlock rfl (s'.lock _ List.mem_cons_self) h) fun u hu => by rw [upd_ne (ow_ne ow (s'.lock _ List.mem_cons_self))]; exact hu)⟩,
            fun O' σ' H' Δ' hp s' => ⟨s'.lock _ List.mem_cons_self, em.bk O' σ' _ Δ' hp (un s')⟩, fun O' σ' H' Δ' hp s' => ⟨s'.lock _ List.mem_cons_self, em.ct O' σ' _ Δ' hp (un s')⟩, fun _ _ _ Δ' C hp _ => (hx Δ' C hp).elim⟩
        have := s.lock p hp'
        rw [z, hp] at this
        cases this
      · have same : ∀ {H' : Hp}, H' q = some (.frz o (.dT kvs)) → upd H' q (.frz o (.dT kvs)) = H' := fun {H'} hp => by
          funext b
          by_cases z : b = q
          · rw [z, upd_same, hp]
          · rw [upd_ne z]
        have h : (HO.frz o (.dT kvs)) = .dT kvs ∨ ∃ o', HO.frz o (.dT kvs) = .frz o' (.dT kvs) := .inr ⟨o, rfl⟩
        have un : ∀ {O' : List Addr} {σ' : St} {H' : Hp} {Δ' : DEnv}, Sta X.K T fm ((q, o, .dT kvs) :: L) O' σ' H' Δ' → Sta X.K T fm L O' σ' H' Δ' := fun {O' σ' H' Δ'} s' => by
          have := s.unlockd hp rfl h nT s'
          rw [same (s'.lock _ List.mem_cons_self)] at this
          exact this
        have m := main _ o D hp h (fun p hp' z => by
          obtain ⟨p1, p2, p3⟩ := p
          have := s.lock _ hp'
          have z : p1 = q := z
          subst z
          rw [hp] at this
          cases this
          exact ⟨rfl, rfl⟩) ⟨fun O' σ' H' Δ' hp s' => em.nx O' σ' _ Δ' hp (un s'), fun O' σ' H' Δ' v d hp s' rv => em.rt O' σ' _ Δ' v d hp (un s') rv, fun O' σ' H' Δ' l o hp s' hl h0 ow => em.ro O' σ' _ Δ' l o hp (un s') hl h0 ow,
            fun O' σ' H' Δ' hp s' => em.bk O' σ' _ Δ' hp (un s'), fun O' σ' H' Δ' hp s' => em.ct O' σ' _ Δ' hp (un s'), fun _ _ _ Δ' C hp _ => (hx Δ' C hp).elim⟩
        rw [same hp] at m
        exact (ps_for po hc (pi_keys vs) canG_ok canSs_ok hfs).run pins sh σ H D I m⟩
end
end DL
namespace L2
open PySem PySem.Spec PyProof.Rows
/-- {k: v}, k a tuple -/
def tDispT1 (tk tv : TE) : TE := fun σ H Q => ∀ p, H p = none → tk σ (upd H p (.dT [])) fun y H1 => tv σ H1 fun z H2 => H2 p = some (.dT []) ∧ ∃ ky q, y = .ref q ∧ H2 q = some (.tup (ky.map kV)) ∧ Q (.ref p) (upd H2 p (.dT [(ky, z)]))
theorem pe_dispT1 {X : Cx} {pos : Pos} {k v : Expr} {tk tv : TE} (hu : X.A.units < cLine) (hk : PE X k tk) (hv : PE X v tv) : PE X (.Dict [some k] [v] pos) (tDispT1 tk tv) := by
  refine ⟨fun pins s σ H Q I q => ?_⟩
  have hn := I.hok.fresh (Nat.le_refl s.heap.objs.size)
  have I1 := I.laid (a := s.heap.objs.size) (o := .dT []) (h' := s.heap.push { cls := .type "dict", data := .dict #[] }) (t' := s.toks) (fun _ _ q => Heap.get?_push_of_some _ q) (Nat.le_refl _) (dt_empty s.heap I.big)
  have hp : pairTrees [some k] [v] X.env pos ≠ [] := fun z => by
    have := pairTrees_length [some k] [v] X.env pos rfl rfl
    rw [z] at this
    cases this
  have hl : (pairTrees [some k] [v] X.env pos).length ≤ 15 := by
    rw [pairTrees_length [some k] [v] X.env pos rfl rfl]
    exact (by decide : 1 ≤ 15)
  rw [arm_eval_Dict, zip_pairTrees [some k] [v] X.env pos rfl rfl, dictDisplay_pairs (pairTrees [some k] [v] X.env pos) hp (by omega)]
  refine wpAny_bind (wpAny_standAt (wpAny_bind (wpAny_subDictH (knd := tupleKind (mixKind X.prog X.w)) hu hl ?_)))
  refine thn ((pps_cons hk hv pps_nil).run pins _ σ _ (fun ps H2 => match ps with
    | [(y, z)] => H2 s.heap.objs.size = some (.dT []) ∧ ∃ ky b, y = .ref b ∧ H2 b = some (.tup (ky.map kV)) ∧ Q (.ref s.heap.objs.size) (upd H2 s.heap.objs.size (.dT [(ky, z)]))
    | _ => False) I1 (q _ hn)) fun ws s2 ⟨ps, H2, I2, rel, hQ⟩ => ?_
  match ps, rel, hQ with
  | [(y, z)], rel, hQ =>
    obtain ⟨e1, ky, b, e2, e3, q2⟩ := hQ
    subst e2
    cases rel with
    | @cons _ c _ cs h t =>
      cases t
      obtain ⟨u1, u2⟩ := c
      obtain ⟨h1, h2⟩ := h
      have e4 : u1 = .ref b := h1
      subst e4
      obtain ⟨_, nm, xs, prs, big⟩ := dt_of I2.hok e1
      cases prs
      refine ⟨[(ky, b, u2)], ⟨rfl, rfl, key_of I2.hok e3, True.intro⟩, big, fun h' tk big' same => ?_⟩
      obtain ⟨ob, es, ep, at1, at2, at3, at4, _, at5⟩ := big'
      refine wpAny_pure ⟨.ref s.heap.objs.size, _, d_write I2 (by rw [e1]; exact True.intro) same ⟨ob, at1⟩ ?_, rfl, q2⟩
      refine ⟨by show 1 ≤ sizeLine; decide, nm, [(ky, b, u2)], .cons ⟨rfl, ?_, h2⟩ .nil, ob, es, ep, at1, at2, at3, at4, at5⟩
      have ne : b ≠ s.heap.objs.size := fun z => by rw [z, e1] at e3; cases e3
      rw [upd_ne ne]
      exact e3
end L2
namespace DL
open PySem PySem.Spec L2 PyProof.Rows
section
variable {X : Cx} {T : List Addr} {Δ : DEnv} {d d1 : Dt} {pos : Pos}
theorem pr_dictT1 {k v : Expr} {ky : List Key} (hu : X.A.units < cLine) (hk : PD X T Δ k d1) (hky : tkeyOf d1 = some ky) (hv : PD X T Δ v d) : PR X T Δ (.Dict [some k] [v] pos) (.own (.dt [(ky, d)])) :=
  .of (pe_dispT1 hu canE_ok canE_ok) fun fm L O σ H Q W tk s q p hp => by
    have s0 := s.hide (u := .dT []) hp
    refine hk.run fm L (p :: O) σ _ _ W tk s0 fun x H1 g1 s1 r1 => hv.run fm L (p :: O) σ H1 _ W tk s1 fun y H2 g2 s2 r2 => ?_
    obtain ⟨aO, a0, aT, aL⟩ := s.new_apart hp
    have e2 : H2 p = some (.dT []) := g2 p _ aT (g1 p _ aT upd_same)
    obtain ⟨b, rfl, hb⟩ := (r1.mono (g2.mask s1.tO)).tkey hky
    refine ⟨e2, ky, b, rfl, (mask_some hb).1, ?_⟩
    have hm : mask (upd H2 p (.dT [(ky, y)])) (p :: O) = mask H2 (p :: O) := mask_upd List.mem_cons_self
    refine q p _ hp (fun a o n ha => ?_) (s.hid_upd hp s2) ⟨[(ky, y)], upd_same, ⟨rfl, ?_⟩⟩
    · have ne : a ≠ p := fun z => by rw [z, hp] at ha; cases ha
      rw [upd_ne ne]
      exact g2 a o n (g1 a o n (by rw [upd_ne ne]; exact ha))
    · show RpA X.K (mask (upd H2 p (.dT [(ky, y)])) (p :: O)) [y] [d]
      rw [hm]
      exact .cons r2 .nil
end
end DL

set_option Elab.async false
set_option linter.all false
set_option maxRecDepth 100000
set_option maxHeartbeats 2000000
/-! LM13: from the goal back. -/
namespace LM
open PySem PySem.Spec L2 DL
theorem cutD_take {α : Type} (l : List α) (n : Nat) : cutD l none (some (n : Int)) = l.take n := by
  unfold cutD
  rw [HT.sIx_nat, HT.sIx_none, List.drop_zero, Nat.sub_zero, List.take_eq_take_iff]
  omega
theorem cutD_drop {α : Type} (l : List α) (n : Nat) : cutD l (some (n : Int)) none = l.drop n := by
  unfold cutD
  rw [HT.sIx_nat, HT.sIx_none, List.take_of_length_le (by rw [List.length_drop]; exact Nat.le_refl _)]
  rcases Nat.le_total n l.length with h | h
  · rw [Nat.min_eq_left h]
  · rw [Nat.min_eq_right h, List.drop_length, List.drop_of_length_le h]
def fits (r : Rl) (q : Spt) : Bool := decide (r.t = q.1) && decide (q.2.take r.p.length = r.p)
def ahd (r : Rl) (q : Spt) : Spt := (r.s, r.g :: q.2.drop r.p.length)
def aheads (rs : List Rl) (q : Spt) : List Spt := (rs.filter fun r => fits r q).map fun r => ahd r q
theorem mem_aheads {rs : List Rl} {q x : Spt} : x ∈ aheads rs q ↔ q ∈ laters rs x.1 x.2 := by
  constructor
  · intro h
    obtain ⟨r, hr, rfl⟩ := List.mem_map.mp h
    obtain ⟨h1, h2⟩ := List.mem_filter.mp hr
    obtain ⟨k1, k2⟩ := (Bool.and_eq_true _ _).mp h2
    have k1 := of_decide_eq_true k1
    have k2 := of_decide_eq_true k2
    have e : q = (r.t, r.p ++ q.2.drop r.p.length) := by
      refine Prod.ext k1.symm ?_
      show q.2 = r.p ++ q.2.drop r.p.length
      have := List.take_append_drop r.p.length q.2
      rw [k2] at this
      exact this.symm
    have := laters_mem h1 (q.2.drop r.p.length)
    rw [← e] at this
    exact this
  · intro h
    obtain ⟨r, hr, tl, e1, e2, rfl⟩ := mem_laters h
    refine List.mem_map.mpr ⟨r, List.mem_filter.mpr ⟨hr, (Bool.and_eq_true _ _).mpr ⟨decide_eq_true rfl, decide_eq_true ?_⟩⟩, ?_⟩
    · show (r.p ++ tl).take r.p.length = r.p
      simp
    · refine Prod.ext e1.symm ?_
      show r.g :: (r.p ++ tl).drop r.p.length = x.2
      rw [e2]
      simp
def ahead (rs : List Rl) (qs : List Spt) : List Spt := insAll [] (qs.flatMap fun q => aheads rs q)
theorem mem_ahead {rs : List Rl} {qs : List Spt} {x : Spt} : x ∈ ahead rs qs ↔ ∃ q ∈ qs, q ∈ laters rs x.1 x.2 := by
  unfold ahead
  rw [mem_insAll, List.mem_flatMap]
  simp only [List.not_mem_nil, false_or, mem_aheads]
theorem ahead_nodup {rs : List Rl} {qs : List Spt} : (ahead rs qs).Nodup := insAll_nodup List.nodup_nil
theorem aheads_len (rs : List Rl) (q : Spt) : (aheads rs q).length ≤ rs.length := by
  unfold aheads
  rw [List.length_map]
  exact List.length_filter_le _ _
theorem aheads_take {rs : List Rl} {q : Spt} {i : Nat} {r : Rl} (h : rs[i]? = some r) : aheads (rs.take (i + 1)) q = aheads (rs.take i) q ++ if fits r q = true then [ahd r q] else [] := by
  obtain ⟨hi, e⟩ := List.getElem?_eq_some_iff.mp h
  unfold aheads
  rw [List.take_succ_eq_append_getElem hi, List.filter_append, List.map_append, e]
  congr 1
  cases hg : fits r q with
  | true => simp [hg]
  | false => simp [hg]
theorem flatA_len (rs : List Rl) : ∀ qs : List Spt, (qs.flatMap fun q => aheads rs q).length ≤ qs.length * rs.length
  | [] => by simp
  | q :: r => by
    have := flatA_len rs r
    have := aheads_len rs q
    rw [List.flatMap_cons, List.length_append, List.length_cons, Nat.succ_mul]
    omega
/-- the dict after so many spots and rules -/
def foundA (rs : List Rl) (qs : List Spt) (i j : Nat) : List Spt := insAll (insAll [] ((qs.take i).flatMap fun q => aheads rs q)) (((qs[i]?).map fun q => aheads (rs.take j) q).getD [])
theorem foundA_len {rs : List Rl} {qs : List Spt} {i j : Nat} (hl : rs.length ≤ 12) (hl2 : qs.length ≤ 100) : (foundA rs qs i j).length ≤ 1212 := by
  have h1 := flatA_len rs (qs.take i)
  have h2 := insAll_len ((qs.take i).flatMap fun q => aheads rs q) []
  have h3 := insAll_len (((qs[i]?).map fun q => aheads (rs.take j) q).getD []) (insAll [] ((qs.take i).flatMap fun q => aheads rs q))
  have h4 : (qs.take i).length * rs.length ≤ 100 * 12 := Nat.mul_le_mul (by rw [List.length_take]; omega) hl
  have h5 : (((qs[i]?).map fun q => aheads (rs.take j) q).getD []).length ≤ 12 := by
    cases qs[i]? with
    | none => exact Nat.zero_le _
    | some q =>
      have := aheads_len (rs.take j) q
      rw [List.length_take] at this
      show (aheads (rs.take j) q).length ≤ 12
      omega
  rw [List.length_nil] at h2
  unfold foundA
  omega
theorem foundA_step {rs : List Rl} {qs : List Spt} {i : Nat} {q : Spt} (h : qs[i]? = some q) : foundA rs qs i rs.length = foundA rs qs (i + 1) 0 := by
  obtain ⟨hi, e⟩ := List.getElem?_eq_some_iff.mp h
  have hz : ∀ o : Option Spt, (o.map fun q => aheads (rs.take 0) q).getD [] = [] := fun o => by cases o <;> rfl
  unfold foundA
  rw [h, hz, List.take_succ_eq_append_getElem hi, e, List.flatMap_append, insAll_app, List.take_length]
  show insAll _ (aheads rs q) = insAll _ (aheads rs q ++ [])
  rw [List.append_nil]
theorem foundA_end {rs : List Rl} {qs : List Spt} : foundA rs qs qs.length 0 = ahead rs qs := by
  unfold foundA
  rw [List.getElem?_eq_none (Nat.le_refl _), List.take_length]
  rfl
theorem foundA_put {rs : List Rl} {qs : List Spt} {i j : Nat} {q : Spt} {r : Rl} (h : qs[i]? = some q) (hj : rs[j]? = some r) : foundA rs qs i (j + 1) = if fits r q = true then ins (foundA rs qs i j) (ahd r q) else foundA rs qs i j := by
  unfold foundA
  rw [h]
  show insAll _ (aheads (rs.take (j + 1)) q) = if _ then ins (insAll _ (aheads (rs.take j) q)) _ else insAll _ (aheads (rs.take j) q)
  rw [aheads_take hj, insAll_app]
  cases fits r q <;> rfl
theorem ahead_len {rs : List Rl} {qs : List Spt} (hl : rs.length ≤ 12) (hl2 : qs.length ≤ 100) : (ahead rs qs).length ≤ 1212 := by
  have := foundA_len (i := qs.length) (j := 0) hl hl2
  rw [foundA_end] at this
  exact this
/-! ### from the goal back, a level at a time -/
structure Bfs (rs : List Rl) (g : Spt) (n : Nat) (D : List (Spt × Nat)) (S : List Spt) : Prop where
  a : ∀ p ∈ D, p.2 ≤ n ∧ Rch rs g p.2 p.1 ∧ ∀ m, m < p.2 → ¬ Rch rs g m p.1
  b : ∀ q m, m ≤ n → Rch rs g m q → ∃ d, (q, d) ∈ D
  c : ∀ q ∈ S, (q, n) ∈ D
  d : ∀ q, (q, n) ∈ D → q ∈ S
  nd : (D.map (·.1)).Nodup
theorem Bfs.start (rs : List Rl) (g : Spt) : Bfs rs g 0 [(g, 0)] [g] where
  a := fun p hp => by
    rw [List.mem_singleton.mp hp]
    exact ⟨Nat.le_refl _, rfl, fun m hm => absurd hm (Nat.not_lt_zero _)⟩
  b := fun q m hm h => by
    have e : m = 0 := by omega
    subst e
    exact ⟨0, by rw [show q = g from h]; exact List.mem_cons_self⟩
  c := fun q hq => by rw [List.mem_singleton.mp hq]; exact List.mem_cons_self
  d := fun q hq => by
    have := List.mem_singleton.mp hq
    injection this with h1 _
    rw [h1]
    exact List.mem_cons_self
  nd := by simp
def newS (rs : List Rl) (D : List (Spt × Nat)) (S : List Spt) : List Spt := (ahead rs S).filter fun q => !decide (q ∈ D.map (·.1))
theorem newS_nodup {rs : List Rl} {D : List (Spt × Nat)} {S : List Spt} : (newS rs D S).Nodup := ahead_nodup.filter _
theorem newS_out {rs : List Rl} {D : List (Spt × Nat)} {S : List Spt} {q : Spt} (h : q ∈ newS rs D S) : q ∉ D.map (·.1) := by
  have := (List.mem_filter.mp h).2
  simpa using this
theorem Bfs.step {rs : List Rl} {g : Spt} {n : Nat} {D : List (Spt × Nat)} {S : List Spt} (h : Bfs rs g n D S) : Bfs rs g (n + 1) (D ++ (newS rs D S).map fun q => (q, n + 1)) (newS rs D S) := by
  have key : ∀ q, q ∈ newS rs D S ↔ q ∉ D.map (·.1) ∧ Rch rs g (n + 1) q := fun q => by
    constructor
    · intro hq
      refine ⟨newS_out hq, ?_⟩
      obtain ⟨q', h1, h2⟩ := mem_ahead.mp (List.mem_filter.mp hq).1
      exact ⟨q', h2, (h.a _ (h.c q' h1)).2.1⟩
    · rintro ⟨hn, q', h1, h2⟩
      obtain ⟨d, hd⟩ := h.b q' n (Nat.le_refl _) h2
      obtain ⟨k1, k2, k3⟩ := h.a _ hd
      have k1 : d ≤ n := k1
      have e : d = n := by
        rcases Nat.lt_or_eq_of_le k1 with z | z
        · obtain ⟨d2, hd2⟩ := h.b q (d + 1) z ⟨q', h1, k2⟩
          exact absurd (List.mem_map.mpr ⟨_, hd2, rfl⟩) hn
        · exact z
      subst e
      exact List.mem_filter.mpr ⟨mem_ahead.mpr ⟨q', h.d q' hd, h1⟩, by simpa using hn⟩
  refine ⟨fun p hp => ?_, fun q m hm hr => ?_, fun q hq => ?_, fun q hq => ?_, ?_⟩
  · rcases List.mem_append.mp hp with z | z
    · obtain ⟨k1, k2⟩ := h.a p z
      exact ⟨by omega, k2⟩
    · obtain ⟨q, hq, rfl⟩ := List.mem_map.mp z
      obtain ⟨k1, k2⟩ := (key q).mp hq
      refine ⟨Nat.le_refl _, k2, fun m hm hr => ?_⟩
      obtain ⟨d, hd⟩ := h.b q m (by have : m < n + 1 := hm; omega) hr
      exact k1 (List.mem_map.mpr ⟨_, hd, rfl⟩)
  · by_cases z : q ∈ D.map (·.1)
    · obtain ⟨p, hp, rfl⟩ := List.mem_map.mp z
      exact ⟨p.2, List.mem_append.mpr (.inl hp)⟩
    · have e : m = n + 1 := by
        rcases Nat.lt_or_ge n m with y | y
        · omega
        · obtain ⟨d, hd⟩ := h.b q m y hr
          exact absurd (List.mem_map.mpr ⟨_, hd, rfl⟩) z
      subst e
      exact ⟨n + 1, List.mem_append.mpr (.inr (List.mem_map.mpr ⟨q, (key q).mpr ⟨z, hr⟩, rfl⟩))⟩
  · exact List.mem_append.mpr (.inr (List.mem_map.mpr ⟨q, hq, rfl⟩))
  · rcases List.mem_append.mp hq with z | z
    · have := (h.a _ z).1
      have : n + 1 ≤ n := this
      omega
    · obtain ⟨q2, h2, e⟩ := List.mem_map.mp z
      injection e with e _
      rw [← e]
      exact h2
  · rw [List.map_append, List.map_map]
    have e : ((fun p : Spt × Nat => p.1) ∘ fun q => (q, n + 1)) = id := rfl
    rw [e, List.map_id, List.nodup_append]
    exact ⟨h.nd, newS_nodup, fun x hx y hy e => newS_out hy (e ▸ hx)⟩
/-- as a dict -/
def dpT (D : List (Spt × Nat)) : List (List Key × Dt) := D.map fun p => (skey p.1, .int (p.2 : Nat))
theorem dpT_len (D : List (Spt × Nat)) : (dpT D).length = D.length := List.length_map ..
theorem dpT_any (D : List (Spt × Nat)) (q : Spt) : ((dpT D).any fun kd => decide (kd.1 = skey q)) = decide (q ∈ D.map (·.1)) := by
  unfold dpT
  rw [List.any_map, Bool.eq_iff_iff, List.any_eq_true, decide_eq_true_eq, List.mem_map]
  constructor
  · rintro ⟨x, hx, e⟩
    exact ⟨x, hx, skey_inj (of_decide_eq_true e)⟩
  · rintro ⟨x, hx, e⟩
    exact ⟨x, hx, decide_eq_true (by rw [← e])⟩
theorem dpT_put {D : List (Spt × Nat)} {q : Spt} {n : Nat} (h : q ∉ D.map (·.1)) : putD (dpT D) (skey q) (.int (n : Nat)) = dpT (D ++ [(q, n)]) := by
  unfold putD
  rw [dpT_any, if_neg (by rw [decide_eq_false h]; exact Bool.false_ne_true)]
  unfold dpT
  rw [List.map_append]
  rfl
theorem dpT_none {D : List (Spt × Nat)} {q : Spt} : (valD (dpT D) (skey q)).isSome = decide (q ∈ D.map (·.1)) := by
  rw [← valD_any, dpT_any]
theorem dpT_some : ∀ {D : List (Spt × Nat)} {p : Spt × Nat}, (D.map (·.1)).Nodup → p ∈ D → valD (dpT D) (skey p.1) = some (.int (p.2 : Nat))
  | [], p, _, h => nomatch h
  | x :: r, p, hn, h => by
    rw [List.map_cons, List.nodup_cons] at hn
    rcases List.mem_cons.mp h with z | z
    · rw [← z]
      exact valD_pos rfl
    · have ne : ¬ skey x.1 = skey p.1 := fun e => hn.1 (by rw [skey_inj e]; exact List.mem_map.mpr ⟨p, z, rfl⟩)
      show valD ((skey x.1, _) :: dpT r) (skey p.1) = _
      rw [valD_neg (p := (skey x.1, Dt.int (x.2 : Nat))) ne]
      exact dpT_some hn.2 z
theorem dpT_keys (D : List (Spt × Nat)) : (dpT D).map (·.1) = D.map fun p => skey p.1 := by
  unfold dpT
  rw [List.map_map]
  rfl
/-! ### small spots -/
def pilesS (sl : List Nat) : List (List Nat) := ([] :: sl.map fun g => [g]) ++ sl.flatMap fun a => sl.map fun b => [a, b]
def smalls (many : Int) (sl : List Nat) : List Spt := (List.range many.toNat).flatMap fun s => (pilesS sl).map fun p => ((s : Nat), p)
theorem pilesS_ok {sl : List Nat} (h : Sgs sl) : ∀ p ∈ pilesS sl, Sgs p ∧ p.length ≤ 2 := fun p hp => by
  rcases List.mem_append.mp hp with z | z
  · rcases List.mem_cons.mp z with z | z
    · rw [z]
      exact ⟨(fun c hc => nomatch hc), (by decide)⟩
    · obtain ⟨g, hg, rfl⟩ := List.mem_map.mp z
      exact ⟨fun c hc => by rw [List.mem_singleton.mp hc]; exact h g hg, (by show 1 ≤ 2; decide)⟩
  · obtain ⟨a, ha, z⟩ := List.mem_flatMap.mp z
    obtain ⟨b, hb, rfl⟩ := List.mem_map.mp z
    refine ⟨fun c hc => ?_, (by show 2 ≤ 2; decide)⟩
    rcases List.mem_cons.mp hc with y | y
    · rw [y]; exact h a ha
    · rw [List.mem_singleton.mp y]; exact h b hb
theorem smalls_ok {many : Int} {sl : List Nat} (h : Sgs sl) (hm : 0 < many) : ∀ q ∈ smalls many sl, 0 ≤ q.1 ∧ q.1 < many ∧ Sgs q.2 ∧ q.2.length ≤ 2 := fun q hq => by
  obtain ⟨s, hs, z⟩ := List.mem_flatMap.mp hq
  obtain ⟨p, hp, rfl⟩ := List.mem_map.mp z
  have := List.mem_range.mp hs
  obtain ⟨k1, k2⟩ := pilesS_ok h p hp
  exact ⟨by show (0 : Int) ≤ (s : Nat); omega, by show ((s : Nat) : Int) < many; omega, k1, k2⟩
end LM

set_option Elab.async false
set_option linter.all false
set_option maxRecDepth 100000
set_option maxHeartbeats 2000000
/-! DL29: < of (whole number, sign, whole number); loops over a list of one's own that stays; loops over what a call gives that reads one's own. -/
namespace L2
open PySem PySem.Spec
def rLt3 (K : PySem.W.Frag) : R2 := fun x y H Q => ∃ a b p q, x = .ref a ∧ y = .ref b ∧ SqT K H a ((LM.akey p).map kV) ∧ SqT K H b ((LM.akey q).map kV) ∧ Q (.bl (LM.lexT p q)) H
theorem tri_its {p1 p3 : Int} {p2 : Nat} {its : List Value} (r : Vals [.int p1, .str ⟨[p2].toArray⟩, .int p3] its) : ∃ t u v, its = [.int p1 t, .str ⟨[p2].toArray⟩ u, .int p3 v] := by
  cases r with
  | cons a1 r => cases r with
    | cons a2 r => cases r with
      | cons a3 r =>
        cases r
        obtain ⟨t1, rfl⟩ := a1
        obtain ⟨t2, rfl⟩ := a2
        obtain ⟨t3, rfl⟩ := a3
        exact ⟨t1, t2, t3, rfl⟩
theorem op_lt3 {X : Cx} (hu : X.A.units < cLine) : OpR X (compareOp .Lt) (rLt3 X.K) := by
  intro pins s σ H x y v u Q I rx ry h
  obtain ⟨a, b, ⟨p1, p2, p3⟩, ⟨q1, q2, q3⟩, rfl, rfl, ha, hb, q⟩ := h
  cases rx
  cases ry
  obtain ⟨its, r1, h1, _⟩ := I.tuple ha
  obtain ⟨its2, r2, h2, _⟩ := I.tuple hb
  obtain ⟨t1, t2, t3, rfl⟩ := tri_its r1
  obtain ⟨m1, m2, m3, rfl⟩ := tri_its r2
  clear r1 r2
  have key := Ob.RcOp.tuples_lt (A := X.A) (s := s) (e := fun j => match j with | 0 => (p1 == q1) | 1 => ((⟨[p2].toArray⟩ : Str) == ⟨[q2].toArray⟩) | _ => (p3 == q3))
      (r := fun j => match j with | 0 => decide (p1 < q1) | 1 => decide ((⟨[p2].toArray⟩ : Str).cps.toList < (⟨[q2].toArray⟩ : Str).cps.toList) | _ => decide (p3 < q3)) h1 h2 hu (fun j hj hj2 => ?_) (fun j hj hj2 _ => ?_)
  · refine key X.prog X.w _ _ ?_
    refine ⟨.bl (LM.lexT (p1, p2, p3) (q1, q2, q3)), H, I, ?_, q⟩
    show Value.bool (if (p1 == q1) = true then (if ((⟨[p2].toArray⟩ : Str) == ⟨[q2].toArray⟩) = true then (if (p3 == q3) = true then decide (3 < 3) else decide (p3 < q3)) else decide ((⟨[p2].toArray⟩ : Str).cps.toList < (⟨[q2].toArray⟩ : Str).cps.toList)) else decide (p1 < q1)) = Value.bool (LM.lexT (p1, p2, p3) (q1, q2, q3))
    rw [SrtO.sign_eq, SrtO.sign_lt]
    congr 1
    show _ = (if p1 = q1 then (if p2 = q2 then decide (p3 < q3) else decide (p2 < q2)) else decide (p1 < q1))
    by_cases e1 : p1 = q1
    · rw [if_pos (by simpa using e1), if_pos e1]
      by_cases e2 : p2 = q2
      · rw [if_pos (by simpa using e2), if_pos e2]
        by_cases e3 : p3 = q3
        · rw [if_pos (by simpa using e3), e3]
          exact (decide_eq_false (by omega)).trans (decide_eq_false (by omega)).symm
        · rw [if_neg (by simpa using e3)]
      · rw [if_neg (by simpa using e2), if_neg e2]
    · rw [if_neg (by simpa using e1), if_neg e1]
  · match j, hj with
    | 0, _ => exact SeqAt.EqAt.int_int p1 t1 q1 m1
    | 1, _ => exact SeqAt.EqAt.str_str _ t2 _ m2
    | 2, _ => exact SeqAt.EqAt.int_int p3 t3 q3 m3
    | n + 3, hj => exact absurd hj (by show ¬ n + 3 < 3; omega)
  · match j, hj with
    | 0, _ => exact Ob.RcOp.lt_int p1 q1 t1 m1
    | 1, _ => exact fun _ _ _ _ h => PyProof.Rows.lt_str h
    | 2, _ => exact Ob.RcOp.lt_int p3 q3 t3 m3
    | n + 3, hj => exact absurd hj (by show ¬ n + 3 < 3; omega)
end L2
namespace DL
open PySem PySem.Spec L2
section
variable {X : Cx} {T : List Addr} {Δ : DEnv} {P : DE} {pos : Pos} {e : Expr} {es : List Expr} {ds : List Dt} {d : Dt}
theorem rp_adt {K : PySem.W.Frag} {F : Hp} {v : V} {p : LM.Arw} (h : Rp K F v (LM.adt p)) : ∃ a, v = .ref a ∧ F a = some (.tup ((LM.akey p).map kV)) := by
  obtain ⟨b, e, h⟩ := h.tkey (k := LM.akey p) (LM.adt_key p)
  exact ⟨b, e, h⟩
theorem opd_lt3 {p q : LM.Arw} : OpD X T (rLt3 X.K) (LM.adt p) (LM.adt q) (.val (.bl (LM.lexT p q))) := fun fm L O σ H Δ Q W x y tk s r1 r2 k => by
  obtain ⟨a, rfl, h1⟩ := rp_adt r1
  obtain ⟨b, rfl, h2⟩ := rp_adt r2
  exact ⟨a, b, p, q, rfl, rfl, .of (s.out h1), .of (s.out h2), k _ H Gr.refl s (.bl _)⟩
/-- for tg in x, x a list of one's own that the loop leaves as it is -/
theorem psd_forV {x : Str} {tg : Expr} {p1 : Pos} {body : List Stmt} {l : Addr} {br : Bool} (i : Nat) (po : PassesOwn (model X.prog X.w) X.A X.env X.xe) (hc : X.calm = true) (hi : Δ[i]? = some (some (.own l br (.lst ds)))) (Iv : Nat → DEnv → Prop) (h0 : Iv 0 Δ)
    (hown : ∀ j Δ', Iv j Δ' → Δ'[i]? = some (some (.own l br (.lst ds))))
    (hs : ∀ (j : Nat) (d : Dt) (Δ' : DEnv), ds[j]? = some d → Iv j Δ' → ∃ js Δ'', GD X T tg d js Δ' Δ'' ∧ PSsD X T Δ'' body { P with nx := Iv (j + 1), ct := Iv (j + 1), bk := P.nx }) (hd : ∀ Δ', Iv ds.length Δ' → P.nx Δ')
    (hN : X.N[i]? = some x := by rfl) (hv : Vis X.env.scope x := by first | exact Or.inl rfl | exact Or.inr (Or.inl rfl) | exact Or.inr (Or.inr rfl)) (hdb : (x == ("__debug__" : Str)) = false := by decide) (hcd : (x == ("__classdict__" : Str)) = false := by decide)
    (hfs : ∀ y, foldedSetIterable (.Name x p1) X.env y = pure y := by intro _; rfl) : PSD X T Δ (.For tg (.Name x p1) body [] pos) P :=
  .of (ps_for po hc (pi_list (slot_ref i hN hv hdb hcd)) canG_ok canSs_ok hfs) fun fm L O σ H D W tk s em => by
    obtain ⟨h1, h2, h3⟩ := s.ow hi
    obtain ⟨xs, hxs, _⟩ := h3
    refine ⟨.ref l, h1, l, rfl, ⟨xs, .of hxs⟩, ?_⟩
    refine ⟨fun k m σ' H' => m = ds.length - k ∧ k ≤ ds.length ∧ ∃ O' Δ', Iv k Δ' ∧ Sta X.K T fm L O' σ' H' Δ', ⟨ds.length, by simp, Nat.zero_le _, O, Δ, h0, s⟩, ?_⟩
    rintro k m σ' H' ⟨rfl, hk, O', Δ', iv, s'⟩
    obtain ⟨q1, q2, q3⟩ := s'.ow (hown k Δ' iv)
    obtain ⟨ys, hys, ra⟩ := q3
    by_cases hlt : k < ds.length
    · refine .inr ⟨⟨ys, ys[k]'(by rw [ra.len]; exact hlt), .of hys, List.getElem?_eq_getElem _⟩, fun σ2 H2 => ∃ O2 Δ2, Iv (k + 1) Δ2 ∧ Sta X.K T fm L O2 σ2 H2 Δ2, fun σ2 H2 ⟨O2, Δ2, iv2, s2⟩ => ⟨ds.length - (k + 1), by omega, rfl, hlt, O2, Δ2, iv2, s2⟩, fun x H2 hy => ?_⟩
      obtain ⟨rfl, h⟩ := hy
      obtain ⟨x', e1, rx⟩ := ra.get (List.getElem?_eq_getElem hlt)
      have := h ys (.of hys)
      rw [e1] at this
      cases this
      obtain ⟨js, Δ'', hgd, hb⟩ := hs k ds[k] Δ' (List.getElem?_eq_getElem hlt) iv
      refine hgd.run fm L O' σ' H2 _ _ s' rx fun σ2 s2 _ => hb.run fm L O' σ2 H2 _ W tk s2 ?_
      exact ⟨fun O σ H Δ h s => ⟨O, Δ, h, s⟩, em.rt, em.ro, fun O σ H Δ h s => em.nx O σ H Δ h s, fun O σ H Δ h s => ⟨O, Δ, h, s⟩, em.ex⟩
    · have e : k = ds.length := by omega
      subst e
      exact .inl ⟨⟨ys, .of hys, Nat.le_of_eq ra.len⟩, em.nx O' σ' H' Δ' (hd Δ' iv) s'⟩
/-- for tg in f(x, ..), f reading a list of one's own -/
theorem psd_forM {tg iter : Expr} {body : List Stmt} {Δ1 : DEnv} (po : PassesOwn (model X.prog X.w) X.A X.env X.xe) (hc : X.calm = true) (hm : PM X T Δ iter (.lst ds) Δ1) (Iv : Nat → DEnv → Prop) (h0 : Iv 0 Δ1)
    (hs : ∀ (j : Nat) (d : Dt) (Δ' : DEnv), ds[j]? = some d → Iv j Δ' → ∃ js Δ'', GD X T tg d js Δ' Δ'' ∧ PSsD X T Δ'' body { P with nx := Iv (j + 1), ct := Iv (j + 1), bk := P.nx }) (hd : ∀ Δ', Iv ds.length Δ' → P.nx Δ')
    (hfs : ∀ x, foldedSetIterable iter X.env x = pure x := by intro _; rfl) : PSD X T Δ (.For tg iter body [] pos) P :=
  .of (ps_for po hc (pi_list canE_ok) canG_ok canSs_ok hfs) fun fm L O σ H D W tk s em => hm.run fm L O σ H _ W tk s fun v H1 s1 r1 => by
    obtain ⟨a, xs, rfl, g, ra⟩ := r1.lst_of
    refine ⟨a, rfl, ⟨xs, .of (s1.out g)⟩, ?_⟩
    have sp := s1.pin1 r1
    refine ⟨fun k m σ' H' => m = ds.length - k ∧ k ≤ ds.length ∧ ∃ O' Δ', Iv k Δ' ∧ Sta X.K T (fm.pin [(.ref a, .lst ds)]) L O' σ' H' Δ', ⟨ds.length, by simp, Nat.zero_le _, O, Δ1, h0, sp⟩, ?_⟩
    rintro k m σ' H' ⟨rfl, hk, O', Δ', iv, s'⟩
    obtain ⟨b, ys, e, g', rb⟩ := (memPin s').lst_of
    cases e
    by_cases hlt : k < ds.length
    · refine .inr ⟨⟨ys, ys[k]'(by rw [rb.len]; exact hlt), .of (s'.out g'), List.getElem?_eq_getElem _⟩, fun σ2 H2 => ∃ O2 Δ2, Iv (k + 1) Δ2 ∧ Sta X.K T (fm.pin [(.ref a, .lst ds)]) L O2 σ2 H2 Δ2, fun σ2 H2 ⟨O2, Δ2, iv2, s2⟩ => ⟨ds.length - (k + 1), by omega, rfl, hlt, O2, Δ2, iv2, s2⟩, fun x H2 hy => ?_⟩
      obtain ⟨rfl, h⟩ := hy
      obtain ⟨x', e1, rx⟩ := rb.get (List.getElem?_eq_getElem hlt)
      have := h ys (.of (s'.out g'))
      rw [e1] at this
      cases this
      obtain ⟨js, Δ'', hgd, hb⟩ := hs k ds[k] Δ' (List.getElem?_eq_getElem hlt) iv
      refine hgd.run (fm.pin _) L O' σ' H2 _ _ s' rx fun σ2 s2 _ => hb.run (fm.pin _) L O' σ2 H2 _ W tk s2 ?_
      exact ⟨fun O σ H Δ h s => ⟨O, Δ, h, s⟩, em.pin.rt, em.pin.ro, fun O σ H Δ h s => em.nx O σ H Δ h s.unpin, fun O σ H Δ h s => ⟨O, Δ, h, s⟩, em.pin.ex⟩
    · have e : k = ds.length := by omega
      subst e
      exact .inl ⟨⟨ys, .of (s'.out g'), Nat.le_of_eq rb.len⟩, em.nx O' σ' H' Δ' (hd Δ' iv) s'.unpin⟩
/-- list(x), x a list of one's own -/
theorem pr_copyV (i : Nat) {x : Str} {p p1 : Pos} {l : Addr} {br : Bool} (hm : X.mg "list" = none) (hi : Δ[i]? = some (some (.own l br (.lst ds)))) (hN : X.N[i]? = some x := by rfl) (hv : Vis X.env.scope x := by first | exact Or.inl rfl | exact Or.inr (Or.inl rfl) | exact Or.inr (Or.inr rfl)) (hd : (x == ("__debug__" : Str)) = false := by decide) (hcd : (x == ("__classdict__" : Str)) = false := by decide)
    (hg : Gl X "list" := by rfl) (he : starEach [.Name x p1] X.env = (false, eval (.Name x p1) X.env) :: starEach [] X.env := by rfl) (hpl : (backTo pos (starEach [] X.env)).any (·.1) = false := by rfl) : PR X T Δ (.Call (.Name "list" p) [.Name x p1] [] pos) (.own (.lst ds)) :=
  .of (pe_callTy call_list_of hg hm (by decide +kernel) canA_ok (by decide) (by decide) he hpl) fun fm L O σ H Q W tk s q => (pab_here i hi pad_nil hN hv hd hcd he).run fm L O σ H _ W tk s fun vs H1 g1 s1 e1 e2 r1 => by
    obtain ⟨_, _, ow⟩ := s1.ow hi
    obtain ⟨ys, hy, ra⟩ := ow
    match vs, e1, e2 with
    | [v], e1, e2 =>
      cases e1
      exact ⟨l, ys, rfl, .inl (.of hy), fun p hp => (q.back s s1 g1).lst s1 ra hp⟩
end
section
variable {X : Cx} {T : List Addr} {Δ : DEnv} {a b c : Expr} {d1 d2 d3 : Dt} {pos : Pos}
/-- a chain as a test -/
theorem ptd_chain {op op' : CmpOp} {r r' : R2} {k l : Bool} (ho : OpR X (compareOp op) r) (ho' : OpR X (compareOp op') r') (ha : PD X T Δ a d1) (hb : PD X T Δ b d2) (hc : k = true → PD X T Δ c d3) (hr : OpD X T r d1 d2 (.val (.bl k))) (hr' : k = true → OpD X T r' d2 d3 (.val (.bl l)))
    (hm : lastMarks [op, op'] [b, c] = false := by with_unfolding_all rfl) : PTD X T Δ (.Compare a [op, op'] [b, c] pos) (k && l) :=
  .of (pt_chain ho ho' canE_ok canE_ok canE_ok hm) fun fm L O σ H Q W tk s q =>
    ha.run fm L O σ H _ W tk s fun x H1 g1 s1 r1 => hb.run fm L O σ H1 _ W tk s1 fun y H2 g2 s2 r2 =>
      hr fm L O σ H2 Δ _ W x y tk s2 (r1.mono (g2.mask s2.tO)) r2 fun v H3 g3 s3 r3 => ⟨k, r3.bl_of, by
        cases k with
        | false =>
          rw [if_neg Bool.false_ne_true]
          exact ⟨false, rfl, q H3 ((g1.trans g2).trans g3) s3⟩
        | true =>
          rw [if_pos rfl]
          refine (hc rfl).run fm L O σ H3 _ W tk s3 fun z H4 g4 s4 r4 => ?_
          exact hr' rfl fm L O σ H4 Δ _ W y z tk s4 (r2.mono ((g3.trans g4).mask s4.tO)) r4 fun v H5 g5 s5 r5 => ⟨l, r5.bl_of, q H5 ((((g1.trans g2).trans g3).trans g4).trans g5) s5⟩⟩
end
end DL

set_option Elab.async false
set_option linter.all false
set_option maxRecDepth 100000
set_option maxHeartbeats 2000000
/-! DLE: the end of a law over defs that hold generator expressions. -/
namespace DL
open PySem PySem.Spec PyProof.Rows L2

/-- what the head knows of a def's table -/
def TabAt (h : Heap) (mg : Str → Option Value) (y : Str) : Prop := ∃ (f : Addr) (o : Obj) (fd : FuncData) (c P : Addr), mg y = some (.ref f) ∧ h.get? f = some o ∧ o.data = .func fd ∧ fd.code = .ref c ∧ PySem.W.CodeHd h c P ∧ h.get? P = some { cls := .none, data := .fields #[] }
def emptyT : Obj → Bool
  | ⟨.none, none, .fields vs, sl⟩ => vs.isEmpty && sl.isEmpty
  | _ => false
/-- no empty table is among the written objects -/
def noTab (K : PySem.W.Frag) : Bool := K.all fun q => !emptyT q.2
theorem lookup_mem {a : Addr} {o : Obj} : ∀ {l : List (Addr × Obj)}, l.lookup a = some o → (a, o) ∈ l
  | [], h => by cases h
  | (b, u) :: r, h => by
    have h2 : (match a == b with | true => some u | false => r.lookup a) = some o := h
    cases q : (a == b) with
    | true =>
      rw [q] at h2
      have e : u = o := Option.some.inj h2
      rw [beq_iff_eq.mp q, e]
      exact List.mem_cons_self
    | false =>
      rw [q] at h2
      exact List.mem_cons_of_mem _ (lookup_mem h2)
theorem noTab_none {K : PySem.W.Frag} {h : Heap} {P : Addr} (n : noTab K = true) (X : K.In h) (e : h.get? P = some { cls := .none, data := .fields #[] }) : K.lookup P = none := by
  cases q : K.lookup P with
  | none => rfl
  | some u =>
    have e2 := X P u q
    rw [e] at e2
    have e3 := Option.some.inj e2
    have := List.all_eq_true.mp n _ (lookup_mem q)
    rw [← e3] at this
    cases this
theorem tab_of {K : PySem.W.Frag} {h : Heap} {mg : Str → Option Value} {y : Str} {f : Addr} {oc : Value} {od : Option Addr} {fd : FuncData} {sl : Array (Option Value)} (X : K.In h) (t : TabAt h mg y) (hm : mg y = some (.ref f)) (l : K.lookup f = some ⟨oc, od, .func fd, sl⟩) :
    ∃ c P, fd.code = .ref c ∧ PySem.W.CodeHd h c P ∧ h.get? P = some { cls := .none, data := .fields #[] } := by
  obtain ⟨f', o, fd', c, P, h1, h2, h3, h4, h5, h6⟩ := t
  rw [hm] at h1
  cases h1
  have e := X _ _ l
  rw [e] at h2
  cases h2
  cases h3
  exact ⟨c, P, h4, h5, h6⟩
theorem walkT {l : PySem.W.OpenLaw} {n k : Nat} {q : Program} {loose : List Str} {XP : (Str → Option Value) → Heap → Prop} {YP : World → Heap → Prop} {d : DefRec} {K : Params → PySem.W.Frag} {CX : World → CXT} {x : Str} (names : List Str)
    (hrec : (names.all fun y => (recsOf q).any fun e => e.name == y) = true) (hn : l.most = some n) (hn2 : n ≤ sizeLine) (hdf : d.params.defaults = []) (hr : Room k callerA) (hY : ∀ (w : World) (h : Heap), YP w h → (K w.params).In h)
    (F : ∀ (w : World) (mg : Str → Option Value) (fa : Addr) (h : Heap), YP w h → (K w.params).In h → h.Ns mainGlobals mg → mg d.name = some (.ref fa) → (∀ y ∈ names, TabAt h mg y) → LamX.LawAtS l w (K w.params) (CX w) k n x mg fa h)
    (hCX : ∀ (w : World) (H : Hp) (s : Shared) (e : Value) (s' : Shared), CX w [] H s (fun _ _ _ => False) e s' → False) :
    PySem.W.WalkO q loose XP YP l.row.toRowW d [] (fun f vs => PySem.call f vs) := by
  refine Att.attach_callB hn hdf fun w s₀ s₁ mg mb fa o pm cd doc a vs ns G Y ho hd hcd hmg hobj hints hlen hbits hg => ?_
  have KX := hY w _ Y
  have tabs : ∀ y ∈ names, TabAt s₁.heap mg y := fun y hy => by
    obtain ⟨dL, hm, hn1⟩ := List.any_eq_true.mp (List.all_eq_true.mp hrec y hy)
    have hn2 : dL.name = y := beq_iff_eq.mp hn1
    obtain ⟨a', o', fd', c', P', h1, h2, h3, h4, h5, h6⟩ := G.T.tab dL hm
    rw [hn2] at h1
    exact ⟨a', o', fd', c', P', h1, h2, h3, h4, PySem.W.CodeHd.of h5 h6, h6.2⟩
  obtain ⟨fd, cs, sp, hT, nT, C, hb, hsp, hF⟩ := F w mg fa _ Y KX G.T.g hmg tabs
  exact LamX.law_callTs KX G.T.g G.T.b G.T.builtins G.T.nolimit hg hT nT C G.T.bmain hobj hints (Nat.le_trans hlen hn2) hr hF hb (fun H hH hS => hsp H a ns hlen hbits hH hS) fun H e s' => hCX w H s₁ e s'
theorem tabB_of {base : Heap} {mg : Str → Option Value} {c P : Addr} (t : LamX.TabB base mg c P) : GxR.TabB base mg c P := ⟨t.code, t.bm, t.gP⟩
end DL

set_option Elab.async false
set_option linter.all false
set_option maxRecDepth 100000
set_option maxHeartbeats 4000000
namespace K14
open PySem PySem.Spec L2 DL LM
def top (i : Nat) : Stmt := PySem.Challenge.pw_pilerun_k14_whole_rules_turned.main.body.getD i (.Pass ⟨0, 0, 0, 0⟩)
abbrev s_own : Stmt := top 2
abbrev s_weights : Stmt := top 3
abbrev s_bring : Stmt := top 4
abbrev s_keep : Stmt := top 5
abbrev s_from : Stmt := top 6
abbrev s_on : Stmt := top 7
abbrev s_least : Stmt := top 8
abbrev s_rows : Stmt := top 9
abbrev s_ahead : Stmt := top 10
abbrev s_reasons : Stmt := top 11
abbrev s_num : Stmt := top 19
abbrev s_state : Stmt := top 20
abbrev s_sign : Stmt := top 21
abbrev s_pile : Stmt := top 22
abbrev s_tuple : Stmt := top 23
abbrev s_isrule : Stmt := top 24
abbrev s_isspot : Stmt := top 25
abbrev s_ismany : Stmt := top 30
abbrev s_isrules : Stmt := top 31
abbrev s_isgoal : Stmt := top 32
abbrev s_isarrow : Stmt := top 33
abbrev s_cell : Stmt := top 36
abbrev s_signs : Stmt := top 37
abbrev s_mixed : Stmt := top 38
abbrev s_rule : Stmt := top 39
abbrev s_law : Stmt := top 47
abbrev s_lrules : Stmt := top 40
abbrev s_lgoal : Stmt := top 41
abbrev s_lspot : Stmt := top 42
abbrev s_lweights : Stmt := top 43
abbrev s_lsigned : Stmt := top 44
abbrev s_lalike : Stmt := top 45
abbrev s_lfewer : Stmt := top 46
def bodyOf : Stmt → List Stmt
  | .ClassDef _ _ _ b _ _ _ _ _ _ _ => b
  | _ => []
def meth (i : Nat) : Stmt := (bodyOf (top 34)).getD i (.Pass ⟨0, 0, 0, 0⟩)
abbrev s_init : Stmt := meth 0
abbrev s_find : Stmt := meth 1
abbrev s_chka : Stmt := meth 2
abbrev s_chks : Stmt := meth 3
abbrev s_mrules : Stmt := meth 4
abbrev s_mrooms : Stmt := meth 5
abbrev s_mend : Stmt := meth 6
abbrev s_marrows : Stmt := meth 7
abbrev s_mweight : Stmt := meth 8
abbrev s_mreason : Stmt := meth 9
abbrev s_mleast : Stmt := meth 10
abbrev s_mway : Stmt := meth 11
abbrev s_mrun : Stmt := meth 12
abbrev s_mlearn : Stmt := meth 13
structure Txt (mg : Str → Option Value) : Prop where
  b_len : mg "len" = none
  b_range : mg "range" = none
  b_enumerate : mg "enumerate" = none
  b_reversed : mg "reversed" = none
  b_isinstance : mg "isinstance" = none
  b_list : mg "list" = none
  b_tuple : mg "tuple" = none
  b_int : mg "int" = none
  b_bool : mg "bool" = none
  b_str : mg "str" = none
  b_type : mg "type" = none
  b_all : mg "all" = none
  b_ve : mg "ValueError" = none
  b_sorted : mg "sorted" = none
  b_zip : mg "zip" = none
  b_dict : mg "dict" = none
  c_states : ∃ t, mg "MOST_STATES" = some (.int 5 t)
  c_rules : ∃ t, mg "MOST_RULES" = some (.int 12 t)
  c_signs : ∃ t, mg "MOST_GOAL_SIGNS" = some (.int 4 t)
section
variable {P : Program} {w : World} {K : PySem.W.Frag} {mg : Str → Option Value} {base : Heap} {T : List Addr}
/-! ### the tests of spots -/
theorem sc_num : FnScope ["thing"] ["thing"] (defScope s_num) := ⟨rfl, rfl, rfl, by decide +kernel, rfl, by decide +kernel, by decide +kernel⟩
inductive F_num : List Dt → Res → Prop where
  | mk (d : Dt) (h : pl1 d = true) : F_num [d] (.val (.bl (numD d)))
theorem ok_num {f : Addr} {fd : FuncData} (F : Fun K "is_number" "is_number" s_num f fd) (Tx : Txt mg) : FnD P w K mg base T 1 f fd ["thing"] F_num := by
  refine fn_ok F sc_num fun cdv A outer s H E ds r hr hl hF => ?_
  cases hF with
  | mk d h =>
    obtain ⟨n, h1, h2, h3⟩ := pl1_ty h
    refine psd_one (psd_ret (pd_cmp op_isTy9 (nomark _) (pd_type Tx.b_type (pd_v 0 rfl) h1 h2) (pd_bty (n := "int") Tx.b_int (by decide +kernel)) (opd_eqTy h3 (by decide))) ?_)
    show _ = _
    rw [ty_int h1]
theorem sc_state : FnScope ["thing", "many"] ["thing", "many"] (defScope s_state) := ⟨rfl, rfl, rfl, by decide +kernel, rfl, by decide +kernel, by decide +kernel⟩
inductive F_state : List Dt → Res → Prop where
  | mk (d : Dt) (many : Int) (h : pl1 d = true) : F_state [d, .int many] (.val (.bl (stateD d many)))
theorem ok_state {f : Addr} {fd : FuncData} (F : Fun K "is_state" "is_state" s_state f fd) (G_is_number : Callee P w K mg base T "is_number" 1 ["thing"] F_num) : FnD P w K mg base T 2 f fd ["thing", "many"] F_state := by
  refine fn_ok F sc_state fun cdv A outer s H E ds r hr hl hF => ?_
  cases hF with
  | mk d many h =>
    cases hk : numD d with
    | false =>
      have c0 := F_num.mk d h
      rw [hk] at c0
      rw [state_num hk]
      exact psd_one (psd_ret (pd_and (k := false) (l := false) (pr_calln G_is_number hr (pad_cons (pd_v 0 rfl) pad_nil) c0) fun z => nomatch z) rfl)
    | true =>
      obtain ⟨i, rfl⟩ := num_of hk
      exact psd_one (psd_ret (pd_and (k := true) (pr_calln G_is_number hr (pad_cons (pd_v 0 rfl) pad_nil) (F_num.mk (.int i) rfl)) fun _ => (pd_and (k := true) (pr_calln G_is_number hr (pad_cons (pd_v 1 rfl) pad_nil) (F_num.mk (.int many) rfl)) fun _ => (pd_one (d := .bl _) (pd_chain op_le op_lt pd_int (pd_v 0 rfl) (fun _ => pd_v 1 rfl) opd_cmpI (fun _ => opd_cmpI))))) rfl)
theorem sc_sign : FnScope ["thing"] ["thing"] (defScope s_sign) := ⟨rfl, rfl, rfl, by decide +kernel, rfl, by decide +kernel, by decide +kernel⟩
inductive F_sign : List Dt → Res → Prop where
  | mk (d : Dt) (h : pl1 d = true) : F_sign [d] (.val (.bl (signD d)))
theorem ok_sign {f : Addr} {fd : FuncData} (F : Fun K "is_sign" "is_sign" s_sign f fd) (Tx : Txt mg) : FnD P w K mg base T 1 f fd ["thing"] F_sign := by
  refine fn_ok F sc_sign fun cdv A outer s H E ds r hr hl hF => ?_
  cases hF with
  | mk d h =>
    obtain ⟨n, h1, h2, h3⟩ := pl1_ty h
    cases hk : strB d with
    | false =>
      rw [sign_str hk]
      refine psd_one (psd_ret (pd_and (k := decide (n = "str")) (l := false) (pd_cmp op_isTy9 (nomark _) (pd_type Tx.b_type (pd_v 0 rfl) h1 h2) (pd_bty (n := "str") Tx.b_str (by decide +kernel)) (opd_eqTy h3 (by decide))) fun z => ?_) ?_)
      · rw [ty_str h1, hk] at z; cases z
      · show _ = _
        rw [ty_str h1, hk]; rfl
    | true =>
      obtain ⟨l, rfl⟩ := str_of hk
      cases h1
      by_cases hl1 : l.length = 1
      · obtain ⟨c, rfl⟩ := List.length_eq_one_iff.mp hl1
        refine psd_one (psd_ret (pd_and (k := true) (pd_cmp op_isTy9 (nomark _) (pd_type Tx.b_type (pd_v 0 rfl) rfl rfl) (pd_bty (n := "str") Tx.b_str (by decide +kernel)) (opd_eqTy (by decide) (by decide))) fun _ => (pd_and (k := true) (pd_cmp op_eq (nomark _) (pd_len Tx.b_len (pd_v 0 rfl) rfl (by show 1 ≤ sizeLine; decide)) pd_int opd_eqI) fun _ => (pd_one (d := .bl _) (pd_chain op_le_str op_le_str (pd_strE (l := [97]) rfl) (pd_v 0 rfl) (fun _ => pd_strE (l := [122]) rfl) opd_leS (fun _ => opd_leS))))) ?_)
        show Dt.bl (true && (true && (!decide ([c] < [97]) && !decide ([122] < [c])))) = .bl (sgOk c)
        rw [lt1, lt1]
        unfold sgOk
        congr 1
        rw [Bool.eq_iff_iff]
        simp
      · refine psd_one (psd_ret (pd_and (k := true) (pd_cmp op_isTy9 (nomark _) (pd_type Tx.b_type (pd_v 0 rfl) rfl rfl) (pd_bty (n := "str") Tx.b_str (by decide +kernel)) (opd_eqTy (by decide) (by decide))) fun _ => (pd_and (k := decide ((l.length : Int) = 1)) (l := false) (pd_cmp op_eq (nomark _) (pd_len Tx.b_len (pd_v 0 rfl) rfl (pl1_ix h)) pd_int opd_eqI) fun z => ?_)) ?_)
        · have := of_decide_eq_true z
          omega
        · have e : decide ((l.length : Int) = 1) = false := decide_eq_false (by omega)
          have e2 : signD (.str l) = false := by
            match l, hl1 with
            | [], _ => rfl
            | _ :: _ :: _, _ => rfl
          show _ = _
          rw [e, e2]; rfl
theorem sc_pile : FnScope ["thing", "sign"] ["thing"] (defScope s_pile) := ⟨rfl, rfl, rfl, by decide +kernel, rfl, by decide +kernel, by decide +kernel⟩
inductive F_pile : List Dt → Res → Prop where
  | mk (d : Dt) (h : pl1 d = true) : F_pile [d] (.val (.bl (pileD d)))
theorem ok_pile {f c Pt : Addr} {fd : FuncData} (F : Fun K "is_pile" "is_pile" s_pile f fd) (Tx : Txt mg) (hT : Pt ∈ T) (TB : GxR.TabB base mg c Pt) (hcode : fd.code = .ref c) (G_is_sign : Callee P w K mg base T "is_sign" 1 ["thing"] F_sign) : FnD P w K mg base T 3 f fd ["thing"] F_pile := by
  refine fn_okC F sc_pile fun cdv A outer s H E ds r hcd hr hl hF => ?_
  have nd := sc_pile.nd
  cases hF with
  | mk d h =>
    obtain ⟨n, h1, h2, h3⟩ := pl1_ty h
    cases hk : strB d with
    | false =>
      rw [pile_str hk]
      refine psd_one (psd_ret (pd_and (k := decide (n = "str")) (l := false) (pd_cmp op_isTy9 (nomark _) (pd_type Tx.b_type (pd_v 0 rfl) h1 h2) (pd_bty (n := "str") Tx.b_str (by decide +kernel)) (opd_eqTy h3 (by decide))) fun z => ?_) ?_)
      · rw [ty_str h1, hk] at z; cases z
      · show _ = _
        rw [ty_str h1, hk]; rfl
    | true =>
      obtain ⟨l, rfl⟩ := str_of hk
      cases h1
      refine psd_one (psd_ret (pd_and (k := true) (pd_cmp op_isTy9 (nomark _) (pd_type Tx.b_type (pd_v 0 rfl) rfl rfl) (pd_bty (n := "str") Tx.b_str (by decide +kernel)) (opd_eqTy (by decide) (by decide))) fun _ => pd_one (pd_allG (bs := l.map sgOk) hT hr nd Tx.b_all TB (by show cdv = .ref c; rw [← hcd]; exact hcode) (gok_by (N := ["thing", "sign"]) (sc := defScope s_pile) (own := [("sign", 1)]) (by decide +kernel)) (pid_str (pd_v 0 rfl)) (by rw [List.length_map, List.length_map]) ?turn)) ?_)
      case turn =>
        intro i d b e1 e2 _
        rw [List.getElem?_map] at e1 e2
        cases hx : l[i]? with
        | none => rw [hx] at e1; cases e1
        | some x =>
          rw [hx] at e1 e2
          cases e1; cases e2
          exact ⟨[1], _, by simp, fun s0 H0 C code fp => gd_name 1 nd, fun s0 H0 C code fp => pr_calln G_is_sign (room_gen hr) (pad_cons (pd_v 1 rfl) pad_nil) (F_sign.mk (.str [x]) (pl1_str (by show 1 ≤ 100000; decide) fun y hy => by rw [List.mem_singleton.mp hy]; exact pl1_okS h x (List.mem_of_getElem? hx)))⟩
      show Dt.bl (true && (l.map sgOk).all id) = .bl (l.all sgOk)
      rw [List.all_map]
      rfl
theorem sc_tuple : FnScope ["thing", "length"] ["thing", "length"] (defScope s_tuple) := ⟨rfl, rfl, rfl, by decide +kernel, rfl, by decide +kernel, by decide +kernel⟩
inductive F_tuple : List Dt → Res → Prop where
  | mk (d : Dt) (n : Nat) (h : pl1 d = true) : F_tuple [d, .int (n : Int)] (.val (.bl (tupleD d n)))
theorem ok_tuple {f : Addr} {fd : FuncData} (F : Fun K "is_tuple" "is_tuple" s_tuple f fd) (Tx : Txt mg) : FnD P w K mg base T 1 f fd ["thing", "length"] F_tuple := by
  refine fn_ok F sc_tuple fun cdv A outer s H E ds r hr hl hF => ?_
  cases hF with
  | mk d m h =>
    obtain ⟨n, h1, h2, h3⟩ := pl1_ty h
    cases hk : tupB d with
    | false =>
      rw [tuple_tup hk]
      refine psd_one (psd_ret (pd_and (k := decide (n = "tuple")) (l := false) (pd_cmp op_isTy9 (nomark _) (pd_type Tx.b_type (pd_v 0 rfl) h1 h2) (pd_bty (n := "tuple") Tx.b_tuple (by decide +kernel)) (opd_eqTy h3 (by decide))) fun z => ?_) ?_)
      · rw [ty_tup h1, hk] at z; cases z
      · show _ = _
        rw [ty_tup h1, hk]; rfl
    | true =>
      obtain ⟨l, rfl⟩ := tup_of hk
      cases h1
      refine psd_one (psd_ret (pd_and (k := true) (pd_cmp op_isTy9 (nomark _) (pd_type Tx.b_type (pd_v 0 rfl) rfl rfl) (pd_bty (n := "tuple") Tx.b_tuple (by decide +kernel)) (opd_eqTy (by decide) (by decide))) fun _ => (pd_one (pd_cmp op_eq (nomark _) (pd_len Tx.b_len (pd_v 0 rfl) rfl) (pd_v 1 rfl) opd_eqI))) ?_)
      show Dt.bl (true && decide ((l.length : Int) = (m : Int))) = .bl (decide (l.length = m))
      rw [Bool.true_and]
      congr 1
      exact decide_eq_decide.mpr ⟨fun h => by omega, fun h => by omega⟩
theorem sc_isrule : FnScope ["thing", "many", "state", "sign", "to", "push"] ["thing", "many"] (defScope s_isrule) := ⟨rfl, rfl, rfl, by decide +kernel, rfl, by decide +kernel, by decide +kernel⟩
inductive F_isrule : List Dt → Res → Prop where
  | mk (d : Dt) (many : Int) (h : pl2 d = true) : F_isrule [d, .int many] (.val (.bl (ruleD d many)))
theorem ok_isrule {f : Addr} {fd : FuncData} (F : Fun K "is_rule" "is_rule" s_isrule f fd) (Tx : Txt mg) (G_is_tuple : Callee P w K mg base T "is_tuple" 1 ["thing", "length"] F_tuple) (G_is_state : Callee P w K mg base T "is_state" 2 ["thing", "many"] F_state) (G_is_sign : Callee P w K mg base T "is_sign" 1 ["thing"] F_sign)
    (G_is_pile : Callee P w K mg base T "is_pile" 3 ["thing"] F_pile) : FnD P w K mg base T 4 f fd ["thing", "many"] F_isrule := by
  refine fn_ok F sc_isrule fun cdv A outer s H E ds r hr hl hF => ?_
  have nd := sc_isrule.nd
  have hr1 : Room 1 _ := hr.mono (by decide : 1 ≤ 3)
  have hr2 : Room 2 _ := hr.mono (by decide : 2 ≤ 3)
  cases hF with
  | mk d many h =>
    have ct := F_tuple.mk d 4 (pl2_one h)
    cases hk : tupleD d 4 with
    | false =>
      rw [hk] at ct
      rw [rule_tuple hk]
      exact psd_cons (psd_if (k := true) (ptd_not (k := false) (ptd_val (pr_calln G_is_tuple hr1 (pad_cons (pd_v 0 rfl) (pad_cons pd_int pad_nil)) ct))) (fun _ => psd_one (psd_ret pd_bl rfl)) (fun z => nomatch z))
    | true =>
      rw [hk] at ct
      obtain ⟨l, rfl, hl4⟩ := tuple_of hk
      obtain ⟨a, b, c, e, rfl⟩ := four_of hl4
      have hp := pl2_tup h
      have ha := hp a (by simp)
      have hb := hp b (by simp)
      have hc := hp c (by simp)
      have he := hp e (by simp)
      rw [rule_four]
      refine psd_cons (psd_if (k := false) (ptd_not (k := true) (ptd_val (pr_calln G_is_tuple hr1 (pad_cons (pd_v 0 rfl) (pad_cons pd_int pad_nil)) ct))) (fun z => nomatch z) (fun _ => psd_nil ?_))
      refine psd_cons (psd_asg (pd_v 0 rfl) (gd_tup rfl (gds_cons (gd_name 2 nd) (gds_cons (gd_name 3 nd) (gds_cons (gd_name 4 nd) (gds_cons (gd_name 5 nd) gds_nil))))) ?_)
      refine psd_cons (psd_if (k := !(stateD a many && (signD b && stateD c many))) (ptd_k (pwd_or (ptd_not (ptd_val (pr_calln G_is_state hr2 (pad_cons (pd_v 2 rfl) (pad_cons (pd_v 1 rfl) pad_nil)) (F_state.mk a many ha)))) fun _ => (pwd_or (ptd_not (ptd_val (pr_calln G_is_sign hr1 (pad_cons (pd_v 3 rfl) pad_nil) (F_sign.mk b hb)))) fun _ => (pwd_or1 (ptd_not (ptd_val (pr_calln G_is_state hr2 (pad_cons (pd_v 4 rfl) (pad_cons (pd_v 1 rfl) pad_nil)) (F_state.mk c many hc))))))).pt (by rw [Bool.not_and, Bool.not_and])) (fun z => ?_) (fun z => psd_nil ?_))
      · have z2 : (stateD a many && (signD b && stateD c many)) = false := by
          cases q : (stateD a many && (signD b && stateD c many)) with
          | false => rfl
          | true => rw [q] at z; cases z
        rw [z2]
        exact psd_one (psd_ret pd_bl rfl)
      · have z2 : (stateD a many && (signD b && stateD c many)) = true := by
          cases q : (stateD a many && (signD b && stateD c many)) with
          | true => rfl
          | false => rw [q] at z; cases z
        rw [z2]
        cases hpe : pileD e with
        | false =>
          have cp := F_pile.mk e he
          rw [hpe] at cp
          exact psd_one (psd_ret (pd_and (k := false) (l := false) (pr_calln G_is_pile hr (pad_cons (pd_v 5 rfl) pad_nil) cp) fun z => nomatch z) rfl)
        | true =>
          have cp := F_pile.mk e he
          rw [hpe] at cp
          cases e with
          | str p =>
            refine psd_one (psd_ret (pd_and (k := true) (pr_calln G_is_pile hr (pad_cons (pd_v 5 rfl) pad_nil) cp) fun _ => (pd_one (d := .bl _) (pd_cmp op_le (nomark _) (pd_len Tx.b_len (pd_v 5 rfl) rfl (pl1_ix he)) pd_int opd_cmpI))) ?_)
            show Dt.bl (true && decide ((p.length : Int) ≤ 2)) = .bl (true && (true && decide (p.length ≤ 2)))
            rw [Bool.true_and, Bool.true_and, Bool.true_and]
            congr 1
            exact decide_eq_decide.mpr ⟨fun h => by omega, fun h => by omega⟩
          | _ => cases hpe
theorem sc_isspot2 : FnScope ["thing", "many", "state", "pile"] ["thing", "many"] (defScope s_isspot) := ⟨rfl, rfl, rfl, by decide +kernel, rfl, by decide +kernel, by decide +kernel⟩
inductive F_spot : List Dt → Res → Prop where
  | mk (d : Dt) (many : Int) (h : pl2 d = true) : F_spot [d, .int many] (.val (.bl (spotD d many)))
theorem ok_spot {f : Addr} {fd : FuncData} (F : Fun K "is_spot" "is_spot" s_isspot f fd) (G_is_tuple : Callee P w K mg base T "is_tuple" 1 ["thing", "length"] F_tuple) (G_is_state : Callee P w K mg base T "is_state" 2 ["thing", "many"] F_state)
    (G_is_pile : Callee P w K mg base T "is_pile" 3 ["thing"] F_pile) : FnD P w K mg base T 4 f fd ["thing", "many"] F_spot := by
  refine fn_ok F sc_isspot2 fun cdv A outer s H E ds r hr hl hF => ?_
  have nd := sc_isspot2.nd
  have hr1 : Room 1 _ := hr.mono (by decide : 1 ≤ 3)
  have hr2 : Room 2 _ := hr.mono (by decide : 2 ≤ 3)
  cases hF with
  | mk d many h =>
    have ct := F_tuple.mk d 2 (pl2_one h)
    cases hk : tupleD d 2 with
    | false =>
      rw [hk] at ct
      rw [spot_tuple hk]
      exact psd_cons (psd_if (k := true) (ptd_not (k := false) (ptd_val (pr_calln G_is_tuple hr1 (pad_cons (pd_v 0 rfl) (pad_cons pd_int pad_nil)) ct))) (fun _ => psd_one (psd_ret pd_bl rfl)) (fun z => nomatch z))
    | true =>
      rw [hk] at ct
      obtain ⟨l, rfl, hl4⟩ := tuple_of hk
      obtain ⟨a, b, rfl⟩ := two_of hl4
      have hp := pl2_tup h
      have ha := hp a (by simp)
      have hb := hp b (by simp)
      refine psd_cons (psd_if (k := false) (ptd_not (k := true) (ptd_val (pr_calln G_is_tuple hr1 (pad_cons (pd_v 0 rfl) (pad_cons pd_int pad_nil)) ct))) (fun z => nomatch z) (fun _ => psd_nil ?_))
      refine psd_cons (psd_asg (pd_v 0 rfl) (gd_tup rfl (gds_cons (gd_name 2 nd) (gds_cons (gd_name 3 nd) gds_nil))) ?_)
      exact psd_one (psd_ret (pd_and (pr_calln G_is_state hr2 (pad_cons (pd_v 2 rfl) (pad_cons (pd_v 1 rfl) pad_nil)) (F_state.mk a many ha)) fun _ => (pd_one (d := .bl _) (pr_calln G_is_pile hr (pad_cons (pd_v 3 rfl) pad_nil) (F_pile.mk b hb)))) rfl)
/-! ### keep the least -/
theorem sc_keep : FnScope ["table", "key", "worth"] ["table", "key", "worth"] (defScope s_keep) := ⟨rfl, rfl, rfl, by decide +kernel, rfl, by decide +kernel, by decide +kernel⟩
inductive F_keep : Ow → List Dt → Dt → Ow → Prop where
  | t (W : List (Arw × Int)) (a : Arw) (v : Int) (h : W.length ≤ 100000) : F_keep (.dt (wkd W)) [adt a, .int v] (.bl (keepG W a v).1) (.dt (wkd (keepG W a v).2))
  | k (R : List (Int × Int)) (r v : Int) (h : R.length ≤ 100000) : F_keep (.dk (rkd R)) [.int r, .int v] (.bl (keepG R r v).1) (.dk (rkd (keepG R r v).2))
  | p (R : RowP) (r : Int) (v : Int × Int) (h : R.length ≤ 100000) : F_keep (.dk (pkd R)) [.int r, pdt v] (.bl (keepP R r v).1) (.dk (pkd (keepP R r v).2))
theorem ok_keep {f : Addr} {fd : FuncData} (F : Fun K "keep_least" "keep_least" s_keep f fd) : FnB P w K mg base T 1 f fd ["table", "key", "worth"] 0 F_keep := by
  refine fn_okB F sc_keep (by decide) fun cdv A outer s H E l o ds d o' hr hl hF => ?_
  have nd := sc_keep.nd
  have hu64 := hr.units
  have hu : (A.deeper (PyProof.Rows.envOfC "keep_least" (defScope s_keep) s.heap.objs.size f cdv)).units < cLine := Nat.lt_of_le_of_lt (Nat.le_add_right _ 64) hu64
  cases hF with
  | t W a v h =>
    have hz : (wkd W).length < sizeLine := by unfold wkd; rw [tab_len]; exact Nat.lt_of_le_of_lt h (by decide)
    have hput : putD (wkd W) (akey a) (.int v) = wkd (putG W a v) := putD_tab (fun _ _ => akey_inj) a v W
    cases q : lkG W a with
    | none =>
      have e : keepG W a v = (true, putG W a v) := by unfold keepG; rw [q]
      have hg : dGet (wD W) (adt a) = some none := by rw [wD_get, q]; rfl
      rw [e]
      refine psd_cons (psd_if (k := false) (ptd_viewB 0 rfl (pwd_and (k := false) (l := false) (ptd_din (o := none) hu64 (pd_v 1 rfl) (pd_v 0 rfl) hg) fun z => nomatch z).pt) (fun z => nomatch z) (fun _ => psd_nil ?_))
      refine psd_cons (psd_putT 0 hu64 rfl (pd_v 1 rfl) (pd_v 2 rfl) (adt_key a) hz ?_)
      rw [hput]
      exact psd_one (psd_ret pd_bl ⟨rfl, true, rfl⟩)
    | some x =>
      have hg : dGet (wD W) (adt a) = some (some (.int x)) := by rw [wD_get, q]; rfl
      by_cases hx : x ≤ v
      · have e : keepG W a v = (false, W) := by unfold keepG; rw [q]; exact if_pos hx
        rw [e]
        refine psd_cons (psd_if (k := true) (ptd_viewB 0 rfl (ptd_k (pwd_and (k := true) (ptd_din (o := some (.int x)) hu64 (pd_v 1 rfl) (pd_v 0 rfl) hg) fun _ => (pwd_and1 (ptd_cmp op_le (nomark _) (pd_dget hu64 (pd_v 0 rfl) (pd_v 1 rfl) hg) (pd_v 2 rfl) opd_cmpI))).pt (by rw [decide_eq_true hx]; rfl))) (fun _ => ?_) (fun z => nomatch z))
        exact psd_one (psd_ret pd_bl ⟨rfl, true, rfl⟩)
      · have e : keepG W a v = (true, putG W a v) := by unfold keepG; rw [q]; exact if_neg hx
        rw [e]
        refine psd_cons (psd_if (k := false) (ptd_viewB 0 rfl (ptd_k (pwd_and (k := true) (ptd_din (o := some (.int x)) hu64 (pd_v 1 rfl) (pd_v 0 rfl) hg) fun _ => (pwd_and1 (ptd_cmp op_le (nomark _) (pd_dget hu64 (pd_v 0 rfl) (pd_v 1 rfl) hg) (pd_v 2 rfl) opd_cmpI))).pt (by rw [decide_eq_false hx]; rfl))) (fun z => nomatch z) (fun _ => psd_nil ?_))
        refine psd_cons (psd_putT 0 hu64 rfl (pd_v 1 rfl) (pd_v 2 rfl) (adt_key a) hz ?_)
        rw [hput]
        exact psd_one (psd_ret pd_bl ⟨rfl, true, rfl⟩)
  | k R r v h =>
    have hz : (rkd R).length < sizeLine := by unfold rkd; rw [tab_len]; exact Nat.lt_of_le_of_lt h (by decide)
    have hput : putD (rkd R) (Sum.inl r) (.int v) = rkd (putG R r v) := putD_tab (fun _ _ h => Sum.inl.inj h) r v R
    cases q : lkG R r with
    | none =>
      have e : keepG R r v = (true, putG R r v) := by unfold keepG; rw [q]
      have hg : dGet (rD R) (.int r) = some none := by rw [rD_get, q]; rfl
      rw [e]
      refine psd_cons (psd_if (k := false) (ptd_viewB 0 rfl (pwd_and (k := false) (l := false) (ptd_din (o := none) hu64 (pd_v 1 rfl) (pd_v 0 rfl) hg) fun z => nomatch z).pt) (fun z => nomatch z) (fun _ => psd_nil ?_))
      refine psd_cons (psd_putK 0 hu64 rfl (pd_v 1 rfl) (pd_v 2 rfl) rfl hz ?_)
      rw [hput]
      exact psd_one (psd_ret pd_bl ⟨rfl, true, rfl⟩)
    | some x =>
      have hg : dGet (rD R) (.int r) = some (some (.int x)) := by rw [rD_get, q]; rfl
      by_cases hx : x ≤ v
      · have e : keepG R r v = (false, R) := by unfold keepG; rw [q]; exact if_pos hx
        rw [e]
        refine psd_cons (psd_if (k := true) (ptd_viewB 0 rfl (ptd_k (pwd_and (k := true) (ptd_din (o := some (.int x)) hu64 (pd_v 1 rfl) (pd_v 0 rfl) hg) fun _ => (pwd_and1 (ptd_cmp op_le (nomark _) (pd_dget hu64 (pd_v 0 rfl) (pd_v 1 rfl) hg) (pd_v 2 rfl) opd_cmpI))).pt (by rw [decide_eq_true hx]; rfl))) (fun _ => ?_) (fun z => nomatch z))
        exact psd_one (psd_ret pd_bl ⟨rfl, true, rfl⟩)
      · have e : keepG R r v = (true, putG R r v) := by unfold keepG; rw [q]; exact if_neg hx
        rw [e]
        refine psd_cons (psd_if (k := false) (ptd_viewB 0 rfl (ptd_k (pwd_and (k := true) (ptd_din (o := some (.int x)) hu64 (pd_v 1 rfl) (pd_v 0 rfl) hg) fun _ => (pwd_and1 (ptd_cmp op_le (nomark _) (pd_dget hu64 (pd_v 0 rfl) (pd_v 1 rfl) hg) (pd_v 2 rfl) opd_cmpI))).pt (by rw [decide_eq_false hx]; rfl))) (fun z => nomatch z) (fun _ => psd_nil ?_))
        refine psd_cons (psd_putK 0 hu64 rfl (pd_v 1 rfl) (pd_v 2 rfl) rfl hz ?_)
        rw [hput]
        exact psd_one (psd_ret pd_bl ⟨rfl, true, rfl⟩)
  | p R r v h =>
    have hz : (pkd R).length < sizeLine := by unfold pkd; rw [tab_len]; exact Nat.lt_of_le_of_lt h (by decide)
    have hput : putD (pkd R) (Sum.inl r) (pdt v) = pkd (putG R r v) := putD_tab (fun _ _ h => Sum.inl.inj h) r v R
    cases q : lkG R r with
    | none =>
      have e : keepP R r v = (true, putG R r v) := by unfold keepP; rw [q]
      have hg : dGet (pD R) (.int r) = some none := by rw [pD_get, q]; rfl
      rw [e]
      refine psd_cons (psd_if (k := false) (ptd_viewB 0 rfl (pwd_and (k := false) (l := false) (ptd_din (o := none) hu64 (pd_v 1 rfl) (pd_v 0 rfl) hg) fun z => nomatch z).pt) (fun z => nomatch z) (fun _ => psd_nil ?_))
      refine psd_cons (psd_putK 0 hu64 rfl (pd_v 1 rfl) (pd_v 2 rfl) rfl hz ?_)
      rw [hput]
      exact psd_one (psd_ret pd_bl ⟨rfl, true, rfl⟩)
    | some x =>
      have hg : dGet (pD R) (.int r) = some (some (pdt x)) := by rw [pD_get, q]; rfl
      cases hx : pairLe x.1 x.2 v.1 v.2 with
      | true =>
        have e : keepP R r v = (false, R) := by unfold keepP; rw [q]; exact if_pos hx
        rw [e]
        refine psd_cons (psd_if (k := true) (ptd_viewB 0 rfl (ptd_k (pwd_and (k := true) (ptd_din (o := some (pdt x)) hu64 (pd_v 1 rfl) (pd_v 0 rfl) hg) fun _ => (pwd_and1 (ptd_cmp (op_leT hu) (nomark _) (pd_dget hu64 (pd_v 0 rfl) (pd_v 1 rfl) hg) (pd_v 2 rfl) opd_leT2))).pt (by rw [hx]; rfl))) (fun _ => ?_) (fun z => nomatch z))
        exact psd_one (psd_ret pd_bl ⟨rfl, true, rfl⟩)
      | false =>
        have e : keepP R r v = (true, putG R r v) := by unfold keepP; rw [q]; exact if_neg (by rw [hx]; exact Bool.false_ne_true)
        rw [e]
        refine psd_cons (psd_if (k := false) (ptd_viewB 0 rfl (ptd_k (pwd_and (k := true) (ptd_din (o := some (pdt x)) hu64 (pd_v 1 rfl) (pd_v 0 rfl) hg) fun _ => (pwd_and1 (ptd_cmp (op_leT hu) (nomark _) (pd_dget hu64 (pd_v 0 rfl) (pd_v 1 rfl) hg) (pd_v 2 rfl) opd_leT2))).pt (by rw [hx]; rfl))) (fun z => nomatch z) (fun _ => psd_nil ?_))
        refine psd_cons (psd_putK 0 hu64 rfl (pd_v 1 rfl) (pd_v 2 rfl) rfl hz ?_)
        rw [hput]
        exact psd_one (psd_ret pd_bl ⟨rfl, true, rfl⟩)
/-! ### a pile read on -/
theorem sc_on : FnScope ["reached", "sign", "weights", "rooms", "further", "room", "other", "arrow"] ["reached", "sign", "weights", "rooms"] (defScope s_on) := ⟨rfl, rfl, rfl, by decide +kernel, rfl, by decide +kernel, by decide +kernel⟩
inductive F_on : List Dt → Res → Prop where
  | mk (R : List (Int × Int)) (g : Nat) (W : List (Arw × Int)) (n : Nat) (h : n ≤ 1000) : F_on [rD R, .str [g], wD W, .int (n : Int)] (.own (.dk (rkd (readOn W n R g))))
theorem ok_on {f : Addr} {fd : FuncData} (F : Fun K "read_on" "read_on" s_on f fd) (Tx : Txt mg) (G_keep : CalleeB P w K mg base T "keep_least" 1 ["table", "key", "worth"] 0 F_keep) : FnD P w K mg base T 2 f fd ["reached", "sign", "weights", "rooms"] F_on := by
  refine fn_ok F sc_on fun cdv A outer s H E ds r hr hl hF => ?_
  have nd := sc_on.nd
  have hu64 := hr.units
  cases hF with
  | mk R g W n hn =>
    refine psd_cons (psd_setO 4 nd pr_dK fun l_4 => ?_)
    have hks : (rkd R).map (·.1) = R.map fun p => (Sum.inl p.1 : Key) := tab_keys R
    refine psd_cons (psd_forK (ks := (rkd R).map (·.1)) (ds := (rkd R).map (·.2)) 0 (passes_of rfl) rfl rfl (fun j Δ' => ∃ e5 e6 e7, Δ' = [some (.imm (rD R)), some (.imm (.str [g])), some (.imm (wD W)), some (.imm (.int (n : Int))), some (.own l_4 false (.dk (rkd (readUp W n R g j)))), e5, e6, e7]) ⟨none, none, none, rfl⟩ (fun j k Δ' hk iv => ?_) (fun Δ' iv => ?_) (fun _ _ h => h))
    · obtain ⟨e5, e6, e7, rfl⟩ := iv
      rw [hks, List.getElem?_map] at hk
      cases hp : R[j]? with
      | none => rw [hp] at hk; cases hk
      | some p =>
        rw [hp] at hk
        cases hk
        have hj : (R.map (·.1))[j]? = some p.1 := by rw [List.getElem?_map, hp]; rfl
        obtain ⟨c, hc⟩ := lk_of_mem (List.mem_of_getElem? hj)
        have hcd : (lkG R p.1).getD 0 = c := by rw [hc]; rfl
        have hRc : dGet (rD R) (.int p.1) = some (some (.int c)) := by rw [rD_get, hc]; rfl
        refine ⟨_, _, gd_name 5 nd, ?_⟩
        have hup := readUp_succ (W := W) (n := n) (g := g) hj
        rw [hcd] at hup
        refine psd_one (psd_for (passes_of rfl) rfl (pid_range1 Tx.b_range (pd_v 3 rfl) (by omega) (by omega)) (fun i Δ' => ∃ e6 e7, Δ' = [some (.imm (rD R)), some (.imm (.str [g])), some (.imm (wD W)), some (.imm (.int (n : Int))), some (.own l_4 false (.dk (rkd (readRow W g p.1 c i (readUp W n R g j))))), some (.imm (.int p.1)), e6, e7]) ⟨_, _, rfl⟩ (fun i d Δ' hd iv => ?_) (fun Δ' iv => ?_))
        · obtain ⟨e6, e7, rfl⟩ := iv
          obtain ⟨hi, rfl⟩ := rangeN_get hd
          have hi : i < n := by omega
          refine ⟨_, _, gd_name 6 nd, ?_⟩
          refine psd_cons (psd_set 7 nd (d := adt (p.1, g, (i : Int))) (pd_tup (pad_cons (pd_v 5 rfl) (pad_cons (pd_v 1 rfl) (pad_cons (pd_v 6 rfl) pad_nil)))) ?_)
          have hrow := readRow_succ W g p.1 c i (readUp W n R g j)
          have hlen := (readRow_rooms (W := W) (g := g) (room := p.1) (c := c) (readUp_rooms (W := W) (R := R) (g := g) (n := n) j) (Nat.le_of_lt hi)).len
          cases hw : lkG W (p.1, g, (i : Int)) with
          | none =>
            rw [hw] at hrow
            have hg : dGet (wD W) (adt (p.1, g, (i : Int))) = some none := by rw [wD_get, hw]; rfl
            refine psd_one (psd_if (k := false) (ptd_din (o := none) hu64 (pd_v 7 rfl) (pd_v 2 rfl) hg) (fun z => nomatch z) (fun _ => psd_nil ?_))
            exact ⟨_, _, by rw [hrow]; rfl⟩
          | some x =>
            rw [hw] at hrow
            have hg : dGet (wD W) (adt (p.1, g, (i : Int))) = some (some (.int x)) := by rw [wD_get, hw]; rfl
            refine psd_one (psd_if (k := true) (ptd_din (o := some (.int x)) hu64 (pd_v 7 rfl) (pd_v 2 rfl) hg) (fun _ => ?_) (fun z => nomatch z))
            refine psd_one (psd_exprM (pm_call G_keep hr rfl (pab_here 4 rfl (pad_cons (pd_v 6 rfl) (pad_cons (pd_addI (pd_dget hu64 (pd_v 0 rfl) (pd_v 5 rfl) hRc) (pd_dget hu64 (pd_v 2 rfl) (pd_v 7 rfl) hg)) pad_nil))) (F_keep.k _ _ _ (by omega))) ?_)
            exact ⟨_, _, by rw [hrow]; rfl⟩
        · obtain ⟨e6, e7, rfl⟩ := iv
          rw [rangeN_len, Int.toNat_natCast]
          exact ⟨_, _, _, by rw [hup]⟩
    · obtain ⟨e5, e6, e7, rfl⟩ := iv
      have hlen : ((rkd R).map (·.1)).length = R.length := by rw [hks, List.length_map]
      rw [hlen, readUp_all]
      exact psd_one (psd_retV 4 rfl rfl)
/-! ### a pile read -/
theorem sc_from : FnScope ["start", "text", "weights", "rooms", "reached", "sign"] ["start", "text", "weights", "rooms"] (defScope s_from) := ⟨rfl, rfl, rfl, by decide +kernel, rfl, by decide +kernel, by decide +kernel⟩
inductive F_from : List Dt → Res → Prop where
  | mk (start : Int) (text : List Nat) (W : List (Arw × Int)) (n : Nat) (h : n ≤ 1000) : F_from [.int start, .str text, wD W, .int (n : Int)] (.own (.dk (rkd (readFrom W n start text))))
theorem ok_from {f : Addr} {fd : FuncData} (F : Fun K "read_from" "read_from" s_from f fd) (G_on : Callee P w K mg base T "read_on" 2 ["reached", "sign", "weights", "rooms"] F_on) : FnD P w K mg base T 3 f fd ["start", "text", "weights", "rooms"] F_from := by
  refine fn_ok F sc_from fun cdv A outer s H E ds r hr hl hF => ?_
  have nd := sc_from.nd
  cases hF with
  | mk start text W n hn =>
    have im : ∀ R : List (Int × Int), imtR 1 (.own (.dk (rkd R))) = true := fun R => List.all_eq_true.mpr fun p hp => by
      obtain ⟨q, _, rfl⟩ := List.mem_map.mp hp
      rfl
    refine psd_cons (psd_setO 4 nd (o := .dk (rkd [(start, 0)])) (pr_dict1 (pd_v 0 rfl) pd_int) fun l_4 => ?_)
    refine psd_cons (psd_for (passes_of rfl) rfl (pid_str (pd_v 1 rfl)) (fun i Δ' => ∃ l e5, Δ' = [some (.imm (.int start)), some (.imm (.str text)), some (.imm (wD W)), some (.imm (.int (n : Int))), some (.own l false (.dk (rkd (readFrom W n start (text.take i))))), e5]) ⟨l_4, none, rfl⟩ (fun i d Δ' hd iv => ?_) (fun Δ' iv => ?_))
    · obtain ⟨l, e5, rfl⟩ := iv
      obtain ⟨g, hg, rfl⟩ := map_get hd
      refine ⟨_, _, gd_name 5 nd, ?_⟩
      refine psd_one (psd_setO 4 nd (o := .dk (rkd (readOn W n (readFrom W n start (text.take i)) g))) (pr_view 4 1 rfl (pr_calln G_on hr (pad_cons (pd_v 4 rfl) (pad_cons (pd_v 5 rfl) (pad_cons (pd_v 2 rfl) (pad_cons (pd_v 3 rfl) pad_nil)))) (F_on.mk _ g W n hn)) (im _)) fun l2 => ?_)
      obtain ⟨hi, e⟩ := List.getElem?_eq_some_iff.mp hg
      exact ⟨l2, _, by rw [List.take_succ_eq_append_getElem hi, readFrom_snoc, e]; rfl⟩
    · obtain ⟨l, e5, rfl⟩ := iv
      rw [List.length_map, List.take_length]
      exact psd_one (psd_retV 4 rfl rfl)
/-! ### the rules brought once -/
theorem sc_bring : FnScope ["rules", "weights", "rooms", "changed", "state", "sign", "to", "push", "reached", "room"] ["rules", "weights", "rooms"] (defScope s_bring) := ⟨rfl, rfl, rfl, by decide +kernel, rfl, by decide +kernel, by decide +kernel⟩
inductive F_bring : Ow → List Dt → Dt → Ow → Prop where
  | mk (rules : List Rl) (W : List (Arw × Int)) (n : Nat) (hn : n ≤ 1000) (hr : ∀ r ∈ rules, 0 ≤ r.t ∧ r.t < (n : Int)) (hz : W.length + rules.length * n ≤ 100000) : F_bring (.dt (wkd W)) [.lst (rules.map rlD), .int (n : Int)] (.bl (bring n rules W).1) (.dt (wkd (bring n rules W).2))
theorem ok_bring {f : Addr} {fd : FuncData} (F : Fun K "bring_arrows" "bring_arrows" s_bring f fd) (G_keep : CalleeB P w K mg base T "keep_least" 1 ["table", "key", "worth"] 0 F_keep) (G_from : Callee P w K mg base T "read_from" 3 ["start", "text", "weights", "rooms"] F_from) : FnB P w K mg base T 4 f fd ["rules", "weights", "rooms"] 1 F_bring := by
  refine fn_okB F sc_bring (by decide) fun cdv A outer s H E l o ds d o' hr hl hF => ?_
  have nd := sc_bring.nd
  have hu64 := hr.units
  have hr1 : Room 1 _ := hr.mono (by decide : 1 ≤ 3)
  cases hF with
  | mk rules W n hn ht hz =>
    have im : ∀ R : List (Int × Int), imtR 1 (.own (.dk (rkd R))) = true := fun R => List.all_eq_true.mpr fun p hp => by
      obtain ⟨q, _, rfl⟩ := List.mem_map.mp hp
      rfl
    refine psd_cons (psd_set 3 nd pd_bl ?_)
    refine psd_cons (psd_for (passes_of rfl) rfl (pid_list (pd_v 0 rfl)) (fun i Δ' => ∃ e4 e5 e6 e7 e8 e9, ((rules.take i).foldl (bringRule n) (false, W)).2.length ≤ W.length + i * n ∧ Δ' = [some (.imm (.lst (rules.map rlD))), some (.own l true (.dt (wkd ((rules.take i).foldl (bringRule n) (false, W)).2))), some (.imm (.int (n : Int))), some (.imm (.bl ((rules.take i).foldl (bringRule n) (false, W)).1)), e4, e5, e6, e7, e8, e9]) ⟨none, none, none, none, none, none, by simp, rfl⟩ (fun i d Δ' hd iv => ?_) (fun Δ' iv => ?_))
    · obtain ⟨e4, e5, e6, e7, e8, e9, hlen, rfl⟩ := iv
      obtain ⟨r, hri, rfl⟩ := map_get hd
      obtain ⟨hi, er⟩ := List.getElem?_eq_some_iff.mp hri
      have hst := ht r (List.mem_of_getElem? hri)
      refine ⟨_, _, gd_tup rfl (gds_cons (gd_name 4 nd) (gds_cons (gd_name 5 nd) (gds_cons (gd_name 6 nd) (gds_cons (gd_name 7 nd) gds_nil)))), ?_⟩
      have hnext : (rules.take (i + 1)).foldl (bringRule n) (false, W) = bringRule n ((rules.take i).foldl (bringRule n) (false, W)) r := by
        rw [List.take_succ_eq_append_getElem hi, List.foldl_append, er]
        rfl
      generalize hst0 : (rules.take i).foldl (bringRule n) (false, W) = st at hlen hnext ⊢
      refine psd_cons (psd_setO 8 nd (o := .dk (rkd (readFrom st.2 n r.t r.p))) (pr_viewB 1 1 rfl (pr_calln G_from hr (pad_cons (pd_v 6 rfl) (pad_cons (pd_v 7 rfl) (pad_cons (pd_v 1 rfl) (pad_cons (pd_v 2 rfl) pad_nil)))) (F_from.mk r.t r.p st.2 n hn)) (im _)) fun l8 => ?_)
      refine psd_freeze 8 rfl ?_
      have hrooms := readFrom_rooms (W := st.2) hst r.p
      have hbr : bringRule n st r = ((readFrom st.2 n r.t r.p).map (·.1)).foldl (bringRow (readFrom st.2 n r.t r.p) r.s r.g) st := rfl
      generalize readFrom st.2 n r.t r.p = R at hrooms hbr ⊢
      have hks : (rkd R).map (·.1) = R.map fun p => (Sum.inl p.1 : Key) := tab_keys R
      have hRl := hrooms.len
      have rowLen : ∀ j, (((R.map (·.1)).take j).foldl (bringRow R r.s r.g) st).2.length ≤ st.2.length + j := by
        intro j
        induction j with
        | zero => simp
        | succ j ih =>
          by_cases hj : j < (R.map (·.1)).length
          · rw [List.take_succ_eq_append_getElem hj, List.foldl_append]
            have := keepG_len (((R.map (·.1)).take j).foldl (bringRow R r.s r.g) st).2 (r.s, r.g, (R.map (·.1))[j]) ((lkG R (R.map (·.1))[j]).getD 0 + 1)
            show (keepG _ _ _).2.length ≤ _
            omega
          · rw [List.take_of_length_le (by omega)] at ih ⊢
            omega
      have hin : i < rules.length := hi
      have hmul : i * n + n ≤ rules.length * n := by
        have := Nat.mul_le_mul_right n hin
        rw [Nat.succ_mul] at this
        exact this
      refine psd_one (psd_forK (ks := (rkd R).map (·.1)) (ds := (rkd R).map (·.2)) 8 (passes_of rfl) rfl rfl (fun j Δ' => ∃ e9, Δ' = [some (.imm (.lst (rules.map rlD))), some (.own l true (.dt (wkd (((R.map (·.1)).take j).foldl (bringRow R r.s r.g) st).2))), some (.imm (.int (n : Int))), some (.imm (.bl (((R.map (·.1)).take j).foldl (bringRow R r.s r.g) st).1)), some (.imm (.int r.s)), some (.imm (.str [r.g])), some (.imm (.int r.t)), some (.imm (.str r.p)), some (.imm (rD R)), e9]) ⟨_, rfl⟩ (fun j k Δ' hk iv => ?_) (fun Δ' iv => ?_) (fun _ _ h => h))
      · obtain ⟨e9, rfl⟩ := iv
        rw [hks, List.getElem?_map] at hk
        cases hp : R[j]? with
        | none => rw [hp] at hk; cases hk
        | some p =>
          rw [hp] at hk
          cases hk
          have hjR : j < R.length := (List.getElem?_eq_some_iff.mp hp).1
          have hj : (R.map (·.1))[j]? = some p.1 := by rw [List.getElem?_map, hp]; rfl
          obtain ⟨hjl, ej⟩ := List.getElem?_eq_some_iff.mp hj
          obtain ⟨c, hc⟩ := lk_of_mem (List.mem_of_getElem? hj)
          have hRc : dGet (rD R) (.int p.1) = some (some (.int c)) := by rw [rD_get, hc]; rfl
          have hstep : ((R.map (·.1)).take (j + 1)).foldl (bringRow R r.s r.g) st = bringRow R r.s r.g (((R.map (·.1)).take j).foldl (bringRow R r.s r.g) st) p.1 := by
            rw [List.take_succ_eq_append_getElem hjl, List.foldl_append, ej]
            rfl
          have hl2 := rowLen j
          generalize ((R.map (·.1)).take j).foldl (bringRow R r.s r.g) st = su at hstep hl2 ⊢
          have hbrow : bringRow R r.s r.g su p.1 = (su.1 || (keepG su.2 (r.s, r.g, p.1) (c + 1)).1, (keepG su.2 (r.s, r.g, p.1) (c + 1)).2) := by
            unfold bringRow
            rw [hc]
            rfl
          rw [hbrow] at hstep
          refine ⟨_, _, gd_name 9 nd, ?_⟩
          refine psd_one (psd_ifM (ptm_val (pm_call G_keep hr1 rfl (pab_here 1 rfl (pad_cons (d := adt (r.s, r.g, p.1)) (pd_tup (pad_cons (pd_v 4 rfl) (pad_cons (pd_v 5 rfl) (pad_cons (pd_v 9 rfl) pad_nil)))) (pad_cons (pd_addI (pd_dget hu64 (pd_v 8 rfl) (pd_v 9 rfl) hRc) pd_int) pad_nil))) (F_keep.t su.2 (r.s, r.g, p.1) (c + 1) (by omega)))) (fun z => ?_) (fun z => ?_))
          · refine psd_one (psd_set 3 nd pd_bl ?_)
            exact ⟨_, by rw [hstep, z, Bool.or_true]; rfl⟩
          · refine psd_nil ?_
            exact ⟨_, by rw [hstep, z, Bool.or_false]; rfl⟩
      · obtain ⟨e9, rfl⟩ := iv
        have hlenk : ((rkd R).map (·.1)).length = R.length := by rw [hks, List.length_map]
        have hall : (R.map (·.1)).take R.length = R.map (·.1) := List.take_of_length_le (by rw [List.length_map]; exact Nat.le_refl _)
        have hl3 := rowLen R.length
        rw [hall, ← hbr] at hl3
        rw [hlenk, hall, ← hbr, ← hnext]
        rw [← hnext] at hl3
        refine ⟨_, _, _, _, _, _, ?_, rfl⟩
        rw [Nat.succ_mul]
        omega
    · obtain ⟨e4, e5, e6, e7, e8, e9, hlen, rfl⟩ := iv
      rw [List.length_map, List.take_length]
      exact psd_one (psd_ret (pd_v 3 rfl) ⟨rfl, true, rfl⟩)
/-! ### the weights -/
theorem sc_weights : FnScope ["rules", "own", "rooms", "weights", "arrow"] ["rules", "own", "rooms"] (defScope s_weights) := ⟨rfl, rfl, rfl, by decide +kernel, rfl, by decide +kernel, by decide +kernel⟩
inductive F_weights : List Dt → Res → Prop where
  | mk (rules : List Rl) (own : List Arw) (n m : Nat) (hn : n ≤ 1000) (ho : own.length ≤ 1000) (hr : ∀ r ∈ rules, 0 ≤ r.t ∧ r.t < (n : Int)) (hz : ∀ i, i ≤ m → (itW n rules (ownW own) i).length + rules.length * n ≤ 100000) (hgo : ∀ i, i < m → (bring n rules (itW n rules (ownW own) i)).1 = true) (hend : (bring n rules (itW n rules (ownW own) m)).1 = false) :
      F_weights [.lst (rules.map rlD), .lst (own.map adt), .int (n : Int)] (.own (.dt (wkd (itW n rules (ownW own) (m + 1)))))
theorem ok_weights {f : Addr} {fd : FuncData} (F : Fun K "arrow_weights" "arrow_weights" s_weights f fd) (G_bring : CalleeB P w K mg base T "bring_arrows" 4 ["rules", "weights", "rooms"] 1 F_bring) : FnD P w K mg base T 5 f fd ["rules", "own", "rooms"] F_weights := by
  refine fn_ok F sc_weights fun cdv A outer s H E ds r hr hl hF => ?_
  have nd := sc_weights.nd
  have hu64 := hr.units
  cases hF with
  | mk rules own n m hn ho ht hz hgo hend =>
    refine psd_cons (psd_setDcT (prs := own.map fun a => (akey a, Dt.int 0)) 3 rfl (by have h := hu64; show A.units + 3 < cLine; exact Nat.lt_of_le_of_lt (Nat.le_add_right _ 64) h) nd (blkOk_by (N := ["rules", "own", "rooms", "weights", "arrow"]) (sc := defScope s_weights) (own := [("arrow", 4)]) (by decide +kernel)) (pid_list (pd_v 1 rfl)) (by rw [List.length_map, List.length_map]) (by rw [List.length_map]; exact Nat.lt_of_le_of_lt ho (by decide)) (fun i d q h1 h2 => ?turn) fun l_3 => ?_)
    case turn =>
      rw [List.getElem?_map] at h1 h2
      cases ha : own[i]? with
      | none => rw [ha] at h1; cases h1
      | some a =>
        rw [ha] at h1 h2
        cases h1; cases h2
        exact ⟨[4], _, adt a, by simp, fun s0 H0 C cl fp => gd_name 4 nd, fun s0 H0 C cl fp => pd_v 4 rfl, adt_key a, fun s0 H0 C cl fp => pd_int⟩
    rw [ownW_put]
    refine psd_cons (psd_whileM (passes_of rfl) (fun k Δ' => ∃ i, i ≤ m ∧ k = m - i ∧ Δ' = [some (.imm (.lst (rules.map rlD))), some (.imm (.lst (own.map adt))), some (.imm (.int (n : Int))), some (.own l_3 false (.dt (wkd (itW n rules (ownW own) i)))), none]) m ⟨0, Nat.zero_le _, rfl, rfl⟩ (fun k Δ' iv => ?_))
    obtain ⟨i, hi, rfl, rfl⟩ := iv
    refine ⟨_, _, ptm_val (pm_call G_bring hr rfl (pab_later (pd_v 0 rfl) (pab_here 3 rfl (pad_cons (pd_v 2 rfl) pad_nil))) (F_bring.mk rules (itW n rules (ownW own) i) n hn ht (hz i hi))), fun z => ?_, fun z => ?_⟩
    · have hlt : i < m := by
        rcases Nat.lt_or_ge i m with h | h
        · exact h
        · have e : i = m := by omega
          rw [e, hend] at z
          cases z
      exact psd_one (psd_pass ⟨m - (i + 1), by omega, i + 1, hlt, rfl, rfl⟩)
    · have e : i = m := by
        rcases Nat.lt_or_ge i m with h | h
        · rw [hgo i h] at z; cases z
        · omega
      subst e
      exact psd_one (psd_retV 3 rfl rfl)
/-! ### the goal's own arrows -/
theorem sc_own : FnScope ["many", "goal", "room", "pile", "own", "place", "sign"] ["many", "goal"] (defScope s_own) := ⟨rfl, rfl, rfl, by decide +kernel, rfl, by decide +kernel, by decide +kernel⟩
inductive F_own : List Dt → Res → Prop where
  | mk (n a : Int) (pl : List Nat) (h : pl.length ≤ 1000) : F_own [.int n, .tup [.int a, .str pl]] (.own (.lst ((ownAs n a pl pl.length).map adt)))
theorem ok_own {f : Addr} {fd : FuncData} (F : Fun K "own_arrows" "own_arrows" s_own f fd) (Tx : Txt mg) : FnD P w K mg base T 1 f fd ["many", "goal"] F_own := by
  refine fn_ok F sc_own fun cdv A outer s H E ds r hr hl hF => ?_
  have nd := sc_own.nd
  cases hF with
  | mk n a pl h =>
    refine psd_cons (psd_asg (pd_v 1 rfl) (gd_tup rfl (gds_cons (gd_name 2 nd) (gds_cons (gd_name 3 nd) gds_nil))) ?_)
    refine psd_cons (psd_setO 4 nd (pr_lst pad_nil) fun l_4 => ?_)
    refine psd_cons (psd_for (passes_of rfl) rfl (pid_enumS Tx.b_enumerate (pd_v 3 rfl)) (fun i Δ' => ∃ e5 e6, Δ' = [some (.imm (.int n)), some (.imm (.tup [.int a, .str pl])), some (.imm (.int (roomAt n a i))), some (.imm (.str pl)), some (.own l_4 false (.lst ((ownAs n a pl i).map adt))), e5, e6]) ⟨_, _, rfl⟩ (fun i d Δ' hd iv => ?_) (fun Δ' iv => ?_))
    · obtain ⟨e5, e6, rfl⟩ := iv
      rw [List.getElem?_mapIdx] at hd
      cases hg : pl[i]? with
      | none => rw [hg] at hd; cases hd
      | some g =>
        rw [hg] at hd
        cases hd
        have hi : i < pl.length := (List.getElem?_eq_some_iff.mp hg).1
        refine ⟨_, _, (gd_tup rfl (gds_cons (gd_name 5 nd) (gds_cons (gd_name 6 nd) gds_nil))), ?_⟩
        refine psd_cons (psd_append 4 rfl (pd_tup (pad_cons (pd_v 2 rfl) (pad_cons (pd_v 6 rfl) (pad_cons (pd_addI (pd_v 0 rfl) (pd_v 5 rfl)) pad_nil)))) (by rw [List.length_map, ownAs_len]; exact Nat.lt_of_le_of_lt (Nat.le_trans (Nat.le_of_lt hi) h) (by decide)) ?_)
        refine psd_one (psd_set 2 nd (pd_addI (pd_v 0 rfl) (pd_v 5 rfl)) ?_)
        exact ⟨some (.imm (.int ((i : Nat) : Int))), some (.imm (.str [g])), by rw [ownAs_succ hg, List.map_append]; rfl⟩
    · obtain ⟨e5, e6, rfl⟩ := iv
      rw [List.length_mapIdx]
      exact psd_one (psd_retV 4 rfl rfl)
/-! ### a row ahead -/
theorem sc_ahead : FnScope ["row", "sign", "weights", "rooms", "ahead", "other", "room", "arrow"] ["row", "sign", "weights", "rooms"] (defScope s_ahead) := ⟨rfl, rfl, rfl, by decide +kernel, rfl, by decide +kernel, by decide +kernel⟩
inductive F_ahead : List Dt → Res → Prop where
  | mk (R : RowP) (g : Nat) (W : List (Arw × Int)) (n : Nat) (h : n ≤ 1000) : F_ahead [pD R, .str [g], wD W, .int (n : Int)] (.own (.dk (pkd (rowAhead W n R g))))
theorem ok_ahead {f : Addr} {fd : FuncData} (F : Fun K "row_ahead" "row_ahead" s_ahead f fd) (Tx : Txt mg) (G_keep : CalleeB P w K mg base T "keep_least" 1 ["table", "key", "worth"] 0 F_keep) : FnD P w K mg base T 2 f fd ["row", "sign", "weights", "rooms"] F_ahead := by
  refine fn_ok F sc_ahead fun cdv A outer s H E ds r hr hl hF => ?_
  have nd := sc_ahead.nd
  have hu64 := hr.units
  cases hF with
  | mk R g W n hn =>
    refine psd_cons (psd_setO 4 nd pr_dK fun l_4 => ?_)
    have hks : (pkd R).map (·.1) = R.map fun p => (Sum.inl p.1 : Key) := tab_keys R
    refine psd_cons (psd_forK (ks := (pkd R).map (·.1)) (ds := (pkd R).map (·.2)) 0 (passes_of rfl) rfl rfl (fun j Δ' => ∃ e5 e6 e7, Δ' = [some (.imm (pD R)), some (.imm (.str [g])), some (.imm (wD W)), some (.imm (.int (n : Int))), some (.own l_4 false (.dk (pkd (rowUp W n R g j)))), e5, e6, e7]) ⟨none, none, none, rfl⟩ (fun j k Δ' hk iv => ?_) (fun Δ' iv => ?_) (fun _ _ h => h))
    · obtain ⟨e5, e6, e7, rfl⟩ := iv
      rw [hks, List.getElem?_map] at hk
      cases hp : R[j]? with
      | none => rw [hp] at hk; cases hk
      | some p =>
        rw [hp] at hk
        cases hk
        have hj : (R.map (·.1))[j]? = some p.1 := by rw [List.getElem?_map, hp]; rfl
        obtain ⟨c, hc⟩ := lkP_of_mem (List.mem_of_getElem? hj)
        have hcd : ((lkG R p.1).getD (0, 0)).1 = c.1 := by rw [hc]; rfl
        have hRc : dGet (pD R) (.int p.1) = some (some (pdt c)) := by rw [pD_get, hc]; rfl
        refine ⟨_, _, gd_name 5 nd, ?_⟩
        have hup := rowUp_succ (W := W) (n := n) (g := g) hj
        rw [hcd] at hup
        refine psd_one (psd_for (passes_of rfl) rfl (pid_range1 Tx.b_range (pd_v 3 rfl) (by omega) (by omega)) (fun i Δ' => ∃ e6 e7, Δ' = [some (.imm (pD R)), some (.imm (.str [g])), some (.imm (wD W)), some (.imm (.int (n : Int))), some (.own l_4 false (.dk (pkd (rowIn W g p.1 c.1 i (rowUp W n R g j))))), some (.imm (.int p.1)), e6, e7]) ⟨_, _, rfl⟩ (fun i d Δ' hd iv => ?_) (fun Δ' iv => ?_))
        · obtain ⟨e6, e7, rfl⟩ := iv
          obtain ⟨hi, rfl⟩ := rangeN_get hd
          have hi : i < n := by omega
          refine ⟨_, _, gd_name 6 nd, ?_⟩
          refine psd_cons (psd_set 7 nd (d := adt ((i : Int), g, p.1)) (pd_tup (pad_cons (pd_v 6 rfl) (pad_cons (pd_v 1 rfl) (pad_cons (pd_v 5 rfl) pad_nil)))) ?_)
          have hrow := rowIn_succ W g p.1 c.1 i (rowUp W n R g j)
          have hlen := (rowIn_rooms (W := W) (g := g) (other := p.1) (c := c.1) (rowUp_rooms (W := W) (R := R) (g := g) (n := n) j) (Nat.le_of_lt hi)).len
          cases hw : lkG W ((i : Int), g, p.1) with
          | none =>
            rw [hw] at hrow
            have hg : dGet (wD W) (adt ((i : Int), g, p.1)) = some none := by rw [wD_get, hw]; rfl
            refine psd_one (psd_if (k := false) (ptd_din (o := none) hu64 (pd_v 7 rfl) (pd_v 2 rfl) hg) (fun z => nomatch z) (fun _ => psd_nil ?_))
            exact ⟨_, _, by rw [hrow]; rfl⟩
          | some x =>
            rw [hw] at hrow
            have hg : dGet (wD W) (adt ((i : Int), g, p.1)) = some (some (.int x)) := by rw [wD_get, hw]; rfl
            refine psd_one (psd_if (k := true) (ptd_din (o := some (.int x)) hu64 (pd_v 7 rfl) (pd_v 2 rfl) hg) (fun _ => ?_) (fun z => nomatch z))
            refine psd_one (psd_exprM (pm_call G_keep hr rfl (pab_here 4 rfl (pad_cons (pd_v 6 rfl) (pad_cons (d := pdt (x + c.1, p.1)) (pd_tup (pad_cons (pd_addI (pd_dget hu64 (pd_v 2 rfl) (pd_v 7 rfl) hg) (pd_ix (pd_dget hu64 (pd_v 0 rfl) (pd_v 5 rfl) hRc) pd_int rfl)) (pad_cons (pd_v 5 rfl) pad_nil))) pad_nil))) (F_keep.p _ _ _ (by omega))) ?_)
            exact ⟨_, _, by rw [hrow]; rfl⟩
        · obtain ⟨e6, e7, rfl⟩ := iv
          rw [rangeN_len, Int.toNat_natCast]
          exact ⟨_, _, _, by rw [hup]⟩
    · obtain ⟨e5, e6, e7, rfl⟩ := iv
      have hlen : ((pkd R).map (·.1)).length = R.length := by rw [hks, List.length_map]
      rw [hlen, rowUp_all]
      exact psd_one (psd_retV 4 rfl rfl)
/-! ### the rows -/
theorem sc_rows : FnScope ["end", "text", "weights", "rooms", "rows", "sign"] ["end", "text", "weights", "rooms"] (defScope s_rows) := ⟨rfl, rfl, rfl, by decide +kernel, rfl, by decide +kernel, by decide +kernel⟩
inductive F_rows : List Dt → Res → Prop where
  | mk (e : Int) (text : List Nat) (W : List (Arw × Int)) (n : Nat) (h : n ≤ 1000) (ht : text.length ≤ 1000) : F_rows [.int e, .str text, wD W, .int (n : Int)] (.own (.lst ((rowsTo W n e text).map pD)))
theorem ok_rows {f : Addr} {fd : FuncData} (F : Fun K "rows_to" "rows_to" s_rows f fd) (Tx : Txt mg) (G_ahead : Callee P w K mg base T "row_ahead" 2 ["row", "sign", "weights", "rooms"] F_ahead) : FnD P w K mg base T 3 f fd ["end", "text", "weights", "rooms"] F_rows := by
  refine fn_ok F sc_rows fun cdv A outer s H E ds r hr hl hF => ?_
  have nd := sc_rows.nd
  cases hF with
  | mk e text W n hn ht =>
    have im : ∀ R : RowP, imtR 2 (.own (.dk (pkd R))) = true := fun R => List.all_eq_true.mpr fun p hp => by
      obtain ⟨q, _, rfl⟩ := List.mem_map.mp hp
      rfl
    refine psd_cons (psd_setO 4 nd (o := .lst [pD [(e, (0, e))]]) (pr_lst (pad_cons (PR.dat (o := .dk (pkd [(e, (0, e))])) (pr_dict1 (pd_v 0 rfl) (d := pdt (0, e)) (pd_tup (pad_cons pd_int (pad_cons (pd_v 0 rfl) pad_nil))))) pad_nil)) fun l_4 => ?_)
    refine psd_cons (psd_for (passes_of rfl) rfl (pid_revS Tx.b_reversed (pd_v 1 rfl) (by omega)) (fun i Δ' => ∃ e5, Δ' = [some (.imm (.int e)), some (.imm (.str text)), some (.imm (wD W)), some (.imm (.int (n : Int))), some (.own l_4 false (.lst ((rowsUp W n e (text.reverse.take i)).map pD))), e5]) ⟨_, rfl⟩ (fun i d Δ' hd iv => ?_) (fun Δ' iv => ?_))
    · obtain ⟨e5, rfl⟩ := iv
      obtain ⟨g, hg, rfl⟩ := map_get hd
      obtain ⟨hi, eg⟩ := List.getElem?_eq_some_iff.mp hg
      have hi' : i < text.length := by simpa using hi
      refine ⟨_, _, gd_name 5 nd, ?_⟩
      have hne : rowsUp W n e (text.reverse.take i) ≠ [] := fun z => by
        have := rowsUp_len W n e (text.reverse.take i)
        rw [z] at this
        cases this
      refine psd_one (psd_append 4 rfl (PR.dat (o := .dk (pkd (rowAhead W n ((rowsUp W n e (text.reverse.take i)).getLastD []) g))) (pr_view 4 2 rfl (pr_calln G_ahead hr (pad_cons (pd_ix (pd_v 4 rfl) (pd_negI pd_int) (dix_last [] hne)) (pad_cons (pd_v 5 rfl) (pad_cons (pd_v 2 rfl) (pad_cons (pd_v 3 rfl) pad_nil)))) (F_ahead.mk _ g W n hn)) (im _))) (by rw [List.length_map, rowsUp_len, List.length_take, List.length_reverse]; exact Nat.lt_of_le_of_lt (m := 1001) (by omega) (by decide)) ?_)
      exact ⟨some (.imm (.str [g])), by rw [List.take_succ_eq_append_getElem hi, rowsUp_snoc, eg, List.map_append]; rfl⟩
    · obtain ⟨e5, rfl⟩ := iv
      rw [List.length_map, List.take_length]
      refine psd_freeze 4 rfl ?_
      refine psd_one (psd_retO (pr_revL (pd_v 4 rfl)) ?_)
      show _ = _
      rw [← List.map_reverse]
      rfl
/-! ### the least way -/
theorem sc_least : FnScope ["start", "text", "end", "weights", "rooms", "rows", "way", "room", "place", "sign", "other"] ["start", "text", "end", "weights", "rooms"] (defScope s_least) := ⟨rfl, rfl, rfl, by decide +kernel, rfl, by decide +kernel, by decide +kernel⟩
def wayR : Option (List Arw) → Res
  | some l => .own (.lst (l.map adt))
  | none => .val .non
inductive F_least : List Dt → Res → Prop where
  | mk (a e : Int) (text : List Nat) (W : List (Arw × Int)) (n : Nat) (h : n ≤ 1000) (ht : text.length ≤ 1000) : F_least [.int a, .str text, .int e, wD W, .int (n : Int)] (wayR (leastWay W n a text e))
theorem ok_least {f : Addr} {fd : FuncData} (F : Fun K "least_way" "least_way" s_least f fd) (Tx : Txt mg) (G_rows : Callee P w K mg base T "rows_to" 3 ["end", "text", "weights", "rooms"] F_rows) : FnD P w K mg base T 4 f fd ["start", "text", "end", "weights", "rooms"] F_least := by
  refine fn_ok F sc_least fun cdv A outer s H E ds r hr hl hF => ?_
  have nd := sc_least.nd
  have hu64 := hr.units
  cases hF with
  | mk a e text W n hn ht =>
    have hl0 := rowsTo_len W n e text
    have hix : ∀ i, i ≤ text.length → dIx (.lst ((rowsTo W n e text).map pD)) (i : Int) = some (pD ((rowsTo W n e text).getD i [])) := fun i hi => by
      refine dix_map (Int.natCast_nonneg i) ?_
      rw [Int.toNat_natCast, List.getD_eq_getElem?_getD, List.getElem?_eq_getElem (by omega)]
      rfl
    refine psd_cons (psd_set 5 nd (d := .lst ((rowsTo W n e text).map pD)) (PR.dat (o := .lst ((rowsTo W n e text).map pD)) (pr_calln G_rows hr (pad_cons (pd_v 2 rfl) (pad_cons (pd_v 1 rfl) (pad_cons (pd_v 3 rfl) (pad_cons (pd_v 4 rfl) pad_nil)))) (F_rows.mk e text W n hn ht))) ?_)
    cases hs : lkG ((rowsTo W n e text).getD 0 []) a with
    | none =>
      have hg : dGet (pD ((rowsTo W n e text).getD 0 [])) (.int a) = some none := by rw [pD_get, hs]; rfl
      refine psd_cons (psd_if (k := true) (ptd_dnotin (o := none) hu64 (pd_v 0 rfl) (pd_ix (pd_v 5 rfl) pd_int (hix 0 (Nat.zero_le _))) hg) (fun _ => ?_) (fun z => nomatch z))
      exact psd_one (psd_ret pd_non (by unfold leastWay; rw [hs]; rfl))
    | some c =>
      have hg : dGet (pD ((rowsTo W n e text).getD 0 [])) (.int a) = some (some (pdt c)) := by rw [pD_get, hs]; rfl
      have hin := roomW_in (W := W) (n := n) (e := e) (start := a) (text := text) (by rw [hs]; rfl)
      refine psd_cons (psd_if (k := false) (ptd_dnotin (o := some (pdt c)) hu64 (pd_v 0 rfl) (pd_ix (pd_v 5 rfl) pd_int (hix 0 (Nat.zero_le _))) hg) (fun z => nomatch z) (fun _ => psd_nil ?_))
      refine psd_cons (psd_setO 6 nd (pr_lst pad_nil) fun l_6 => ?_)
      refine psd_cons (psd_set 7 nd (pd_v 0 rfl) ?_)
      refine psd_cons (psd_for (passes_of rfl) rfl (pid_enumS Tx.b_enumerate (pd_v 1 rfl)) (fun i Δ' => ∃ e8 e9 e10, Δ' = [some (.imm (.int a)), some (.imm (.str text)), some (.imm (.int e)), some (.imm (wD W)), some (.imm (.int (n : Int))), some (.imm (.lst ((rowsTo W n e text).map pD))), some (.own l_6 false (.lst ((wayUp (rowsTo W n e text) a text i).map adt))), some (.imm (.int (roomW (rowsTo W n e text) a i))), e8, e9, e10]) ⟨_, _, _, rfl⟩ (fun i d Δ' hd iv => ?_) (fun Δ' iv => ?_))
      · obtain ⟨e8, e9, e10, rfl⟩ := iv
        rw [List.getElem?_mapIdx] at hd
        cases hg2 : text[i]? with
        | none => rw [hg2] at hd; cases hd
        | some g =>
          rw [hg2] at hd
          cases hd
          have hi : i < text.length := (List.getElem?_eq_some_iff.mp hg2).1
          obtain ⟨x, hx⟩ := hin i (Nat.le_of_lt hi)
          have hR : dGet (pD ((rowsTo W n e text).getD i [])) (.int (roomW (rowsTo W n e text) a i)) = some (some (pdt x)) := by rw [pD_get, hx]; rfl
          have hx2 : roomW (rowsTo W n e text) a (i + 1) = x.2 := by
            show ((lkG ((rowsTo W n e text).getD i []) (roomW (rowsTo W n e text) a i)).getD (0, 0)).2 = _
            rw [hx]; rfl
          refine ⟨_, _, (gd_tup rfl (gds_cons (gd_name 8 nd) (gds_cons (gd_name 9 nd) gds_nil))), ?_⟩
          refine psd_cons (psd_set 10 nd (pd_ix (pd_dget hu64 (pd_ix (pd_v 5 rfl) (pd_v 8 rfl) (hix i (Nat.le_of_lt hi))) (pd_v 7 rfl) hR) pd_int (show dIx (pdt x) 1 = some (.int x.2) from rfl)) ?_)
          refine psd_cons (psd_append 6 rfl (pd_tup (pad_cons (pd_v 7 rfl) (pad_cons (pd_v 9 rfl) (pad_cons (pd_v 10 rfl) pad_nil)))) (by rw [List.length_map, wayUp_len]; exact Nat.lt_of_le_of_lt (Nat.le_trans (Nat.le_of_lt hi) ht) (by decide)) ?_)
          refine psd_one (psd_set 7 nd (pd_v 10 rfl) ?_)
          exact ⟨some (.imm (.int ((i : Nat) : Int))), some (.imm (.str [g])), some (.imm (.int x.2)), by rw [wayUp_succ hg2, List.map_append, hx2]; rfl⟩
      · obtain ⟨e8, e9, e10, rfl⟩ := iv
        rw [List.length_mapIdx]
        have hw : leastWay W n a text e = some (wayUp (rowsTo W n e text) a text text.length) := by unfold leastWay; rw [hs]; rfl
        rw [hw]
        exact psd_one (psd_retV 6 rfl rfl)
/-! ### the reasons -/
theorem sc_reasons : FnScope ["rules", "own", "weights", "rooms", "reasons", "arrow", "number", "state", "sign", "to", "push", "reached", "room", "way"] ["rules", "own", "weights", "rooms"] (defScope s_reasons) := ⟨rfl, rfl, rfl, by decide +kernel, rfl, by decide +kernel, by decide +kernel⟩
inductive F_reasons : List Dt → Res → Prop where
  | mk (rules : List Rl) (own : List Arw) (W : List (Arw × Int)) (n : Nat) (hn : n ≤ 1000) (ho : own.length ≤ 1000) (hrl : rules.length ≤ 50) (ht : ∀ r ∈ rules, 0 ≤ r.t ∧ r.t < (n : Int)) (hp : ∀ r ∈ rules, r.p.length ≤ 1000)
      (hcl : ∀ r ∈ rules, ∀ room ∈ (readFrom W n r.t r.p).map (·.1), ∃ x, lkG W (r.s, r.g, room) = some x) (hlw : ∀ r ∈ rules, ∀ room ∈ (readFrom W n r.t r.p).map (·.1), ∃ l, leastWay W n r.t r.p room = some l) :
      F_reasons [.lst (rules.map rlD), .lst (own.map adt), wD W, .int (n : Int)] (.own (.dt (zkd (rsns W n rules (ownZ own) rules.length))))
theorem ok_reasons {f : Addr} {fd : FuncData} (F : Fun K "arrow_reasons" "arrow_reasons" s_reasons f fd) (Tx : Txt mg) (G_from : Callee P w K mg base T "read_from" 3 ["start", "text", "weights", "rooms"] F_from) (G_least : Callee P w K mg base T "least_way" 4 ["start", "text", "end", "weights", "rooms"] F_least) : FnD P w K mg base T 5 f fd ["rules", "own", "weights", "rooms"] F_reasons := by
  refine fn_ok F sc_reasons fun cdv A outer s H E ds r hr hl hF => ?_
  have nd := sc_reasons.nd
  have hu64 := hr.units
  have hr3 : Room 3 _ := hr.mono (by decide : 3 ≤ 4)
  cases hF with
  | mk rules own W n hn ho hrl ht hpl hcl hlw =>
    refine psd_cons (psd_setDcT (prs := own.map fun a => (akey a, Dt.non)) 4 rfl (by have h := hu64; show A.units + 3 < cLine; exact Nat.lt_of_le_of_lt (Nat.le_add_right _ 64) h) nd (blkOk_by (N := ["rules", "own", "weights", "rooms", "reasons", "arrow", "number", "state", "sign", "to", "push", "reached", "room", "way"]) (sc := defScope s_reasons) (own := [("arrow", 5)]) (by decide +kernel)) (pid_list (pd_v 1 rfl)) (by rw [List.length_map, List.length_map]) (by rw [List.length_map]; exact Nat.lt_of_le_of_lt ho (by decide)) (fun i d q h1 h2 => ?turn) fun l_4 => ?_)
    case turn =>
      rw [List.getElem?_map] at h1 h2
      cases ha : own[i]? with
      | none => rw [ha] at h1; cases h1
      | some a =>
        rw [ha] at h1 h2
        cases h1; cases h2
        exact ⟨[5], _, adt a, by simp, fun s0 H0 C cl fp => gd_name 5 nd, fun s0 H0 C cl fp => pd_v 5 rfl, adt_key a, fun s0 H0 C cl fp => pd_non⟩
    rw [ownZ_put]
    refine psd_cons (psd_for (passes_of rfl) rfl (pid_enum Tx.b_enumerate (pd_v 0 rfl)) (fun i Δ' => ∃ e5 e6 e7 e8 e9 e10 e11 e12 e13, (rsns W n rules (ownZ own) i).length ≤ own.length + i * n ∧ Δ' = [some (.imm (.lst (rules.map rlD))), some (.imm (.lst (own.map adt))), some (.imm (wD W)), some (.imm (.int (n : Int))), some (.own l_4 false (.dt (zkd (rsns W n rules (ownZ own) i)))), e5, e6, e7, e8, e9, e10, e11, e12, e13]) ⟨_, _, _, _, _, _, _, _, _, by rw [Nat.zero_mul]; exact ownZ_len own, rfl⟩ (fun i d Δ' hd iv => ?_) (fun Δ' iv => ?_))
    · obtain ⟨e5, e6, e7, e8, e9, e10, e11, e12, e13, hlen, rfl⟩ := iv
      rw [List.getElem?_mapIdx, List.getElem?_map] at hd
      cases hri : rules[i]? with
      | none => rw [hri] at hd; cases hd
      | some r =>
        rw [hri] at hd
        cases hd
        have hmem := List.mem_of_getElem? hri
        have hi : i < rules.length := (List.getElem?_eq_some_iff.mp hri).1
        have hst := ht r hmem
        have hnext : rsns W n rules (ownZ own) (i + 1) = rsnRule W n (rsns W n rules (ownZ own) i) i r := by
          show (match rules[i]? with | some r => rsnRule W n (rsns W n rules (ownZ own) i) i r | none => rsns W n rules (ownZ own) i) = _
          rw [hri]
        have hbig : own.length + i * n + n ≤ 100000 := by
          have : i * n ≤ 50 * 1000 := Nat.mul_le_mul (by omega) hn
          omega
        generalize hZ : rsns W n rules (ownZ own) i = Z at hlen hnext ⊢
        refine ⟨_, _, gd_tup rfl (gds_cons (gd_name 6 nd) (gds_cons (gd_tup rfl (gds_cons (gd_name 7 nd) (gds_cons (gd_name 8 nd) (gds_cons (gd_name 9 nd) (gds_cons (gd_name 10 nd) gds_nil))))) gds_nil)), ?_⟩
        refine psd_cons (psd_set 11 nd (d := rD (readFrom W n r.t r.p)) (PR.dat (o := .dk (rkd (readFrom W n r.t r.p))) (pr_calln G_from hr3 (pad_cons (pd_v 9 rfl) (pad_cons (pd_v 10 rfl) (pad_cons (pd_v 2 rfl) (pad_cons (pd_v 3 rfl) pad_nil)))) (F_from.mk r.t r.p W n hn))) ?_)
        have hcl' := hcl r hmem
        have hlw' := hlw r hmem
        have hpl' := hpl r hmem
        have hrooms := readFrom_rooms (W := W) hst r.p
        have hrule : rsnRule W n Z i r = rsnUp W n i r (readFrom W n r.t r.p) Z (readFrom W n r.t r.p).length := rfl
        generalize readFrom W n r.t r.p = R at hcl' hlw' hrooms hrule ⊢
        have hks : (rkd R).map (·.1) = R.map fun p => (Sum.inl p.1 : Key) := tab_keys R
        have hRl := hrooms.len
        refine psd_one (psd_forK (ks := (rkd R).map (·.1)) (ds := (rkd R).map (·.2)) 11 (passes_of rfl) rfl rfl (fun j Δ' => ∃ e5 e12 e13, Δ' = [some (.imm (.lst (rules.map rlD))), some (.imm (.lst (own.map adt))), some (.imm (wD W)), some (.imm (.int (n : Int))), some (.own l_4 false (.dt (zkd (rsnUp W n i r R Z j)))), e5, some (.imm (.int ((i : Nat) : Int))), some (.imm (.int r.s)), some (.imm (.str [r.g])), some (.imm (.int r.t)), some (.imm (.str r.p)), some (.imm (rD R)), e12, e13]) ⟨_, _, _, rfl⟩ (fun j k Δ' hk iv => ?_) (fun Δ' iv => ?_) (fun _ _ h => h))
        · obtain ⟨e5, e12, e13, rfl⟩ := iv
          rw [hks, List.getElem?_map] at hk
          cases hp : R[j]? with
          | none => rw [hp] at hk; cases hk
          | some p =>
            rw [hp] at hk
            cases hk
            have hj : (R.map (·.1))[j]? = some p.1 := by rw [List.getElem?_map, hp]; rfl
            have hjn : j < R.length := (List.getElem?_eq_some_iff.mp hp).1
            have hpm := List.mem_of_getElem? hj
            obtain ⟨c, hc⟩ := lkP_of_mem hpm
            obtain ⟨x, hx⟩ := hcl' _ hpm
            obtain ⟨wl, hwl⟩ := hlw' _ hpm
            have hRc : dGet (rD R) (.int p.1) = some (some (.int c)) := by rw [rD_get, hc]; rfl
            have hWx : dGet (wD W) (adt (r.s, r.g, p.1)) = some (some (.int x)) := by rw [wD_get, hx]; rfl
            have hup := rsnUp_succ (W := W) (n := n) (num := i) (r := r) (Z := Z) hj
            have hzl := rsnUp_len W n i r R Z j
            generalize hY : rsnUp W n i r R Z j = Y at hup hzl ⊢
            refine ⟨_, _, gd_name 12 nd, ?_⟩
            refine psd_cons (psd_set 5 nd (d := adt (r.s, r.g, p.1)) (pd_tup (pad_cons (pd_v 7 rfl) (pad_cons (pd_v 8 rfl) (pad_cons (pd_v 12 rfl) pad_nil)))) ?_)
            cases hq : lkG Y (r.s, r.g, p.1) with
            | some v =>
              have hg : dGet (zD Y) (adt (r.s, r.g, p.1)) = some (some (rsD v)) := by rw [zD_get, hq]; rfl
              have e : rsnOf W n i r R Y p.1 = Y := by unfold rsnOf; rw [if_neg]; rw [hq]; simp
              refine psd_one (psd_if (k := false) (ptd_view 4 rfl (pwd_and (k := false) (l := false) (ptd_dnotin (o := some (rsD v)) hu64 (pd_v 5 rfl) (pd_v 4 rfl) hg) fun z => nomatch z).pt) (fun z => nomatch z) (fun _ => psd_nil ?_))
              exact ⟨_, _, _, by rw [hup, e]; rfl⟩
            | none =>
              have hg : dGet (zD Y) (adt (r.s, r.g, p.1)) = some none := by rw [zD_get, hq]; rfl
              by_cases hcx : c + 1 = x
              · have e : rsnOf W n i r R Y p.1 = putG Y (r.s, r.g, p.1) (some (i, wl)) := by unfold rsnOf; rw [if_pos (by rw [hq, hc, hx]; exact ⟨rfl, hcx⟩), hwl]; rfl
                refine psd_one (psd_if (k := true) (ptd_view 4 rfl (ptd_k (pwd_and (k := true) (ptd_dnotin (o := none) hu64 (pd_v 5 rfl) (pd_v 4 rfl) hg) fun _ => (pwd_and1 (ptd_cmp op_eq (nomark _) (pd_addI (pd_dget hu64 (pd_v 11 rfl) (pd_v 12 rfl) hRc) pd_int) (pd_dget hu64 (pd_v 2 rfl) (pd_v 5 rfl) hWx) opd_eqI))).pt (by rw [decide_eq_true hcx]; rfl))) (fun _ => ?_) (fun z => nomatch z))
                have FL := F_least.mk r.t p.1 r.p W n hn hpl'
                rw [hwl] at FL
                refine psd_cons (psd_setO 13 nd (o := .lst (wl.map adt)) (pr_calln G_least hr (pad_cons (pd_v 9 rfl) (pad_cons (pd_v 10 rfl) (pad_cons (pd_v 12 rfl) (pad_cons (pd_v 2 rfl) (pad_cons (pd_v 3 rfl) pad_nil))))) FL) fun l_13 => ?_)
                have im : imtR 2 (.val (.tup (wl.map adt))) = true := List.all_eq_true.mpr fun d hd => by
                  obtain ⟨a, _, rfl⟩ := List.mem_map.mp hd
                  rfl
                have hput : putD (zkd Y) (akey (r.s, r.g, p.1)) (.tup [.int (i : Int), .tup (wl.map adt)]) = zkd (putG Y (r.s, r.g, p.1) (some (i, wl))) := putD_tab (f := akey) (v := rsD) (fun _ _ => akey_inj) (r.s, r.g, p.1) (some (i, wl)) Y
                refine psd_one (psd_putT 4 hu64 rfl (pd_v 5 rfl) (pd_tup (pad_cons (pd_v 6 rfl) (pad_cons (pr_view 13 2 rfl (pd_tupOf Tx.b_tuple (pd_v 13 rfl)) im) pad_nil))) (adt_key _) (by unfold zkd; rw [tab_len]; exact Nat.lt_of_le_of_lt (m := 100000) (by omega) (by decide)) ?_)
                rw [hput, ← e, ← hup]
                exact ⟨_, _, _, rfl⟩
              · have e : rsnOf W n i r R Y p.1 = Y := by unfold rsnOf; rw [if_neg]; rw [hq, hc, hx]; exact fun z => hcx z.2
                refine psd_one (psd_if (k := false) (ptd_view 4 rfl (ptd_k (pwd_and (k := true) (ptd_dnotin (o := none) hu64 (pd_v 5 rfl) (pd_v 4 rfl) hg) fun _ => (pwd_and1 (ptd_cmp op_eq (nomark _) (pd_addI (pd_dget hu64 (pd_v 11 rfl) (pd_v 12 rfl) hRc) pd_int) (pd_dget hu64 (pd_v 2 rfl) (pd_v 5 rfl) hWx) opd_eqI))).pt (by rw [decide_eq_false hcx]; rfl))) (fun z => nomatch z) (fun _ => psd_nil ?_))
                exact ⟨_, _, _, by rw [hup, e]; rfl⟩
        · obtain ⟨e5, e12, e13, rfl⟩ := iv
          have hlen2 : ((rkd R).map (·.1)).length = R.length := by rw [hks, List.length_map]
          have hzl := rsnUp_len W n i r R Z R.length
          rw [hlen2, ← hrule, ← hnext]
          rw [← hrule, ← hnext] at hzl
          refine ⟨_, _, _, _, _, _, _, _, _, ?_, rfl⟩
          rw [Nat.succ_mul]
          omega
    · obtain ⟨e5, e6, e7, e8, e9, e10, e11, e12, e13, hlen, rfl⟩ := iv
      rw [List.length_mapIdx, List.length_map]
      exact psd_one (psd_retV 4 rfl rfl)
/-! ### many, rules, a goal -/
theorem sc_ismany : FnScope ["thing"] ["thing"] (defScope s_ismany) := ⟨rfl, rfl, rfl, by decide +kernel, rfl, by decide +kernel, by decide +kernel⟩
inductive F_ismany : List Dt → Res → Prop where
  | mk (d : Dt) (h : pl1 d = true) : F_ismany [d] (.val (.bl (manyD d)))
theorem ok_ismany {f : Addr} {fd : FuncData} (F : Fun K "is_many" "is_many" s_ismany f fd) (Tx : Txt mg) (G_num : Callee P w K mg base T "is_number" 1 ["thing"] F_num) : FnD P w K mg base T 2 f fd ["thing"] F_ismany := by
  refine fn_ok F sc_ismany fun cdv A outer s H E ds r hr hl hF => ?_
  cases hF with
  | mk d h =>
    cases hk : numD d with
    | false =>
      have c0 := F_num.mk d h
      rw [hk] at c0
      have e : manyD d = false := by cases d <;> first | rfl | cases hk
      rw [e]
      exact psd_one (psd_ret (pd_and (k := false) (l := false) (pr_calln G_num hr (pad_cons (pd_v 0 rfl) pad_nil) c0) fun z => nomatch z) rfl)
    | true =>
      obtain ⟨i, rfl⟩ := num_of hk
      obtain ⟨t, ht⟩ := Tx.c_states
      exact psd_one (psd_ret (pd_and (k := true) (pr_calln G_num hr (pad_cons (pd_v 0 rfl) pad_nil) (F_num.mk (.int i) rfl)) fun _ => (pd_one (d := .bl _) (pd_chain op_le op_le pd_int (pd_v 0 rfl) (fun _ => pd_gint ht) opd_cmpI (fun _ => opd_cmpI)))) rfl)
theorem sc_isrules : FnScope ["thing", "many", "rule"] ["thing", "many"] (defScope s_isrules) := ⟨rfl, rfl, rfl, by decide +kernel, rfl, by decide +kernel, by decide +kernel⟩
inductive F_isrules : List Dt → Res → Prop where
  | mk (d : Dt) (many : Int) (h : pl1 d = true) (h2 : ∀ l, d = .lst l → ∀ x ∈ l, pl2 x = true) : F_isrules [d, .int many] (.val (.bl (rulesD d many)))
theorem ok_isrules {f c Pt : Addr} {fd : FuncData} (F : Fun K "is_rule_list" "is_rule_list" s_isrules f fd) (Tx : Txt mg) (hT : Pt ∈ T) (TB : GxR.TabB base mg c Pt) (hcode : fd.code = .ref c) (G_isrule : Callee P w K mg base T "is_rule" 4 ["thing", "many"] F_isrule) : FnD P w K mg base T 6 f fd ["thing", "many"] F_isrules := by
  refine fn_okC F sc_isrules fun cdv A outer s H E ds r hcd hr hl hF => ?_
  have nd := sc_isrules.nd
  obtain ⟨t, htx⟩ := Tx.c_rules
  cases hF with
  | mk d many h h2 =>
    obtain ⟨n, h1, h1b, h3⟩ := pl1_ty h
    cases hk : lstB d with
    | false =>
      have e : rulesD d many = false := by cases d <;> first | rfl | cases hk
      rw [e]
      refine psd_cons (psd_if (k := true) (ptd_k (pwd_or (k := !decide (n = "list")) (l := true) (ptd_cmp op_isnTy9 (nomark _) (pd_type Tx.b_type (pd_v 0 rfl) h1 h1b) (pd_bty (n := "list") Tx.b_list (by decide +kernel)) (opd_neTy h3 (by decide))) fun z => ?_).pt (by rw [Bool.or_true])) (fun _ => ?_) (fun z => nomatch z))
      · rw [ty_lst h1, hk] at z; cases z
      · exact psd_one (psd_ret pd_bl rfl)
    | true =>
      obtain ⟨l, rfl⟩ := lst_of hk
      cases h1
      refine psd_cons (psd_if (k := decide ((12 : Int) < l.length)) (ptd_k (pwd_or (k := false) (ptd_cmp op_isnTy9 (nomark _) (pd_type Tx.b_type (pd_v 0 rfl) rfl rfl) (pd_bty (n := "list") Tx.b_list (by decide +kernel)) (opd_neTy (by decide) (by decide))) fun _ => (pwd_or1 (ptd_cmp op_gt (nomark _) (pd_len Tx.b_len (pd_v 0 rfl) rfl) (pd_gint htx) opd_cmpI))).pt rfl) (fun hc => ?_) (fun hc => psd_nil ?_))
      · have e : rulesD (.lst l) many = false := by
          show (decide (l.length ≤ 12) && l.all fun x => ruleD x many) = _
          have : ¬ l.length ≤ 12 := by have := of_decide_eq_true hc; omega
          rw [decide_eq_false this]; rfl
        rw [e]
        exact psd_one (psd_ret pd_bl rfl)
      · have hle : l.length ≤ 12 := by have := of_decide_eq_false hc; omega
        have e : rulesD (.lst l) many = (l.map fun x => ruleD x many).all id := by
          show (decide (l.length ≤ 12) && l.all fun x => ruleD x many) = _
          rw [decide_eq_true hle, List.all_map]
          rfl
        rw [e]
        refine psd_one (psd_ret (pd_allG (bs := l.map fun x => ruleD x many) hT hr nd Tx.b_all TB (by show cdv = .ref c; rw [← hcd]; exact hcode) (gok_by (N := ["thing", "many", "rule"]) (sc := defScope s_isrules) (own := [("rule", 2)]) (by decide +kernel)) (pid_list (pd_v 0 rfl)) (by rw [List.length_map]) ?turn) rfl)
        intro i d b e1 e2 _
        rw [List.getElem?_map, e1] at e2
        cases e2
        exact ⟨[2], _, by simp, fun s0 H0 C code fp => gd_name 2 nd, fun s0 H0 C code fp => pr_calln G_isrule (room_gen hr) (pad_cons (pd_v 2 rfl) (pad_cons (pd_v 1 rfl) pad_nil)) (F_isrule.mk d many (h2 l rfl d (List.mem_of_getElem? e1)))⟩
theorem sc_isgoal : FnScope ["thing", "many"] ["thing", "many"] (defScope s_isgoal) := ⟨rfl, rfl, rfl, by decide +kernel, rfl, by decide +kernel, by decide +kernel⟩
inductive F_isgoal : List Dt → Res → Prop where
  | mk (d : Dt) (many : Int) (h : pl2 d = true) : F_isgoal [d, .int many] (.val (.bl (goalD d many)))
theorem ok_isgoal {f : Addr} {fd : FuncData} (F : Fun K "is_goal" "is_goal" s_isgoal f fd) (Tx : Txt mg) (G_spot : Callee P w K mg base T "is_spot" 4 ["thing", "many"] F_spot) : FnD P w K mg base T 5 f fd ["thing", "many"] F_isgoal := by
  refine fn_ok F sc_isgoal fun cdv A outer s H E ds r hr hl hF => ?_
  obtain ⟨t, htx⟩ := Tx.c_signs
  cases hF with
  | mk d many h =>
    have c0 := F_spot.mk d many h
    cases hk : spotD d many with
    | false =>
      rw [hk] at c0
      rw [goal_no hk]
      exact psd_one (psd_ret (pd_and (k := false) (l := false) (pr_calln G_spot hr (pad_cons (pd_v 0 rfl) (pad_cons (pd_v 1 rfl) pad_nil)) c0) fun z => nomatch z) rfl)
    | true =>
      rw [hk] at c0
      obtain ⟨a, p, rfl⟩ := spot_of hk
      have e : goalD (.tup [a, .str p]) many = decide ((p.length : Int) ≤ 4) := by
        show (spotD (.tup [a, .str p]) many && decide (p.length ≤ 4)) = _
        rw [hk, Bool.true_and]
        exact decide_eq_decide.mpr (by omega)
      rw [e]
      exact psd_one (psd_ret (pd_and (k := true) (pr_calln G_spot hr (pad_cons (pd_v 0 rfl) (pad_cons (pd_v 1 rfl) pad_nil)) c0) fun _ => (pd_one (d := .bl _) (pd_cmp op_le (nomark _) (pd_len Tx.b_len (pd_ix (pd_v 0 rfl) pd_int rfl) rfl (pl1_ix (pl2_tup h (.str p) (by simp)))) (pd_gint htx) opd_cmpI))) rfl)
/-! ### the reader -/
/-- the facts of the class -/
structure Rdr (K : PySem.W.Frag) (C : Addr) : Prop where
  cl : Cls K C
  many : NoAttr K C "_many"
  rules : NoAttr K C "_rules"
  own : NoAttr K C "_own"
  rooms : NoAttr K C "_rooms"
  end_ : NoAttr K C "_end"
  weights : NoAttr K C "_weights"
  reasons : NoAttr K C "_reasons"
def fs5 (n : Int) (rules : List Rl) (own : List Arw) (rooms e : Int) : List (Str × Dt) := [("_many", .int n), ("_rules", .lst (rules.map rlD)), ("_own", .lst (own.map adt)), ("_rooms", .int rooms), ("_end", .int e)]
def fs7 (n : Int) (rules : List Rl) (own : List Arw) (rooms e : Int) (W : List (Arw × Int)) (Z : Rsn) : List (Str × Dt) := [("_many", .int n), ("_rules", .lst (rules.map rlD)), ("_own", .lst (own.map adt)), ("_rooms", .int rooms), ("_end", .int e), ("_weights", wD W), ("_reasons", zD Z)]
theorem sc_find : FnScope ["self"] ["self"] (defScope s_find) := ⟨rfl, rfl, rfl, by decide +kernel, rfl, by decide +kernel, by decide +kernel⟩
inductive F_find (C : Addr) : Ow → List Dt → MR → Prop where
  | mk (n e : Int) (rules : List Rl) (own : List Arw) (R : Nat) (W : List (Arw × Int)) (Z : Rsn) (hW : F_weights [.lst (rules.map rlD), .lst (own.map adt), .int (R : Int)] (.own (.dt (wkd W)))) (hZ : F_reasons [.lst (rules.map rlD), .lst (own.map adt), wD W, .int (R : Int)] (.own (.dt (zkd Z)))) :
      F_find C (.ins C (fs5 n rules own R e)) [] (.ok .non (.ins C (fs7 n rules own R e W Z)))
theorem im_w (W : List (Arw × Int)) : imtR 3 (.own (.dt (wkd W))) = true := List.all_eq_true.mpr fun p hp => by
  obtain ⟨q, _, rfl⟩ := List.mem_map.mp hp
  rfl
theorem im_z (Z : Rsn) : imtR 3 (.own (.dt (zkd Z))) = true := List.all_eq_true.mpr fun p hp => by
  obtain ⟨q, _, rfl⟩ := List.mem_map.mp hp
  obtain ⟨a, o⟩ := q
  cases o with
  | none => rfl
  | some r =>
    obtain ⟨k, l⟩ := r
    show ([Dt.int (k : Int), .tup (l.map adt)].all (imt 2)) = true
    have : imt 2 (.tup (l.map adt)) = true := List.all_eq_true.mpr fun d hd => by
      obtain ⟨a, _, rfl⟩ := List.mem_map.mp hd
      rfl
    rw [List.all_cons, List.all_cons, this]
    rfl
theorem ok_find {f C : Addr} {fd : FuncData} (F : Fun K "_find_arrows" "Reader._find_arrows" s_find f fd) (RC : Rdr K C) (G_weights : Callee P w K mg base T "arrow_weights" 5 ["rules", "own", "rooms"] F_weights) (G_reasons : Callee P w K mg base T "arrow_reasons" 5 ["rules", "own", "weights", "rooms"] F_reasons) : FnI P w K mg base T 6 f fd ["self"] (F_find C) := by
  refine fn_okI F sc_find (by decide) fun cdv A outer s H E l o ds r hr hl hF => ?_
  have nd := sc_find.nd
  cases hF with
  | mk n e rules own R W Z hW hZ =>
    refine psd_cons (psd_fset 0 RC.cl RC.weights rfl (d := wD W) (PR.dat (o := .dt (wkd W)) (pr_viewB 0 3 rfl (pr_calln G_weights hr (pad_cons (pd_fld RC.cl RC.rules (pd_v 0 rfl) rfl) (pad_cons (pd_fld RC.cl RC.own (pd_v 0 rfl) rfl) (pad_cons (pd_fld RC.cl RC.rooms (pd_v 0 rfl) rfl) pad_nil))) hW) (im_w W))) (by show 5 < 1000; decide) ?_)
    refine psd_one (psd_fset 0 RC.cl RC.reasons rfl (d := zD Z) (PR.dat (o := .dt (zkd Z)) (pr_viewB 0 3 rfl (pr_calln G_reasons hr (pad_cons (pd_fld RC.cl RC.rules (pd_v 0 rfl) rfl) (pad_cons (pd_fld RC.cl RC.own (pd_v 0 rfl) rfl) (pad_cons (pd_fld RC.cl RC.weights (pd_v 0 rfl) rfl) (pad_cons (pd_fld RC.cl RC.rooms (pd_v 0 rfl) rfl) pad_nil)))) hZ) (im_z Z))) (by show 6 < 1000; decide) ?_)
    exact ⟨rfl, true, rfl⟩
theorem sc_init : FnScope ["self", "many", "rules", "goal", "state", "pile"] ["self", "many", "rules", "goal"] (defScope s_init) := ⟨rfl, rfl, rfl, by decide +kernel, rfl, by decide +kernel, by decide +kernel⟩
def endOf (n a : Int) (pl : List Nat) : Int := if pl.isEmpty = true then a else n + (pl.length : Int) - 1
inductive F_init (C BM BS : Addr) : Ow → List Dt → MR → Prop where
  | many (d rs g : Dt) (h : pl1 d = true) (hm : manyD d = false) : F_init C BM BS (.ins C []) [d, rs, g] (.exc BM)
  | rules (n : Int) (rs g : Dt) (hn : manyD (.int n) = true) (h1 : pl1 rs = true) (h2 : ∀ l, rs = .lst l → ∀ x ∈ l, pl2 x = true) (hr : rulesD rs n = false) : F_init C BM BS (.ins C []) [.int n, rs, g] (.exc BM)
  | goal (n : Int) (rs g : Dt) (hn : manyD (.int n) = true) (h1 : pl1 rs = true) (h2 : ∀ l, rs = .lst l → ∀ x ∈ l, pl2 x = true) (hr : rulesD rs n = true) (hg : pl2 g = true) (hgo : goalD g n = false) : F_init C BM BS (.ins C []) [.int n, rs, g] (.exc BS)
  | ok (n a : Int) (rules : List Rl) (pl : List Nat) (fs : List (Str × Dt)) (hn : manyD (.int n) = true) (h1 : pl1 (.lst (rules.map rlD)) = true) (h2 : ∀ x ∈ rules.map rlD, pl2 x = true) (hr : rulesD (.lst (rules.map rlD)) n = true) (hg : pl2 (.tup [.int a, .str pl]) = true) (hgo : goalD (.tup [.int a, .str pl]) n = true) (hp : pl.length ≤ 1000)
      (hF : F_find C (.ins C (fs5 n rules (ownAs n a pl pl.length) (n + (pl.length : Int)) (endOf n a pl))) [] (.ok .non (.ins C fs))) : F_init C BM BS (.ins C []) [.int n, .lst (rules.map rlD), .tup [.int a, .str pl]] (.ok .non (.ins C fs))
theorem ok_init {f C BM BS : Addr} {fd : FuncData} (F : Fun K "__init__" "Reader.__init__" s_init f fd) (Tx : Txt mg) (RC : Rdr K C) (EM : OwnExc K mg "BadMachine" BM) (ES : OwnExc K mg "BadSpot" BS)
    (G_many : Callee P w K mg base T "is_many" 2 ["thing"] F_ismany) (G_rules : Callee P w K mg base T "is_rule_list" 6 ["thing", "many"] F_isrules) (G_goal : Callee P w K mg base T "is_goal" 5 ["thing", "many"] F_isgoal) (G_own : Callee P w K mg base T "own_arrows" 1 ["many", "goal"] F_own)
    (G_find : CalleeI P w K mg base T C "_find_arrows" 6 ["self"] (F_find C)) : FnI P w K mg base T 7 f fd ["self", "many", "rules", "goal"] (F_init C BM BS) := by
  refine fn_okI F sc_init (by decide) fun cdv A outer s H E l o ds r hr hl hF => ?_
  have nd := sc_init.nd
  have hr1 : Room 1 _ := hr.mono (by decide : 1 ≤ 6)
  have hr2 : Room 2 _ := hr.mono (by decide : 2 ≤ 6)
  have hr5 : Room 5 _ := hr.mono (by decide : 5 ≤ 6)
  cases hF with
  | many d rs g h hm =>
    have c0 := F_ismany.mk d h
    rw [hm] at c0
    refine psd_cons (psd_if (k := true) (ptd_not (k := false) (ptd_val (pr_calln G_many hr2 (pad_cons (pd_v 1 rfl) pad_nil) c0))) (fun _ => ?_) (fun z => nomatch z))
    exact psd_one (psd_raiseO EM ⟨rfl, true, _, rfl⟩)
  | rules n rs g hn h1 h2 hrr =>
    have c0 := F_ismany.mk (.int n) rfl
    rw [hn] at c0
    have c1 := F_isrules.mk rs n h1 h2
    rw [hrr] at c1
    refine psd_cons (psd_if (k := false) (ptd_not (k := true) (ptd_val (pr_calln G_many hr2 (pad_cons (pd_v 1 rfl) pad_nil) c0))) (fun z => nomatch z) (fun _ => psd_nil ?_))
    refine psd_cons (psd_if (k := true) (ptd_not (k := false) (ptd_val (pr_calln G_rules hr (pad_cons (pd_v 2 rfl) (pad_cons (pd_v 1 rfl) pad_nil)) c1))) (fun _ => ?_) (fun z => nomatch z))
    exact psd_one (psd_raiseO EM ⟨rfl, true, _, rfl⟩)
  | goal n rs g hn h1 h2 hrr hg hgo =>
    have c0 := F_ismany.mk (.int n) rfl
    rw [hn] at c0
    have c1 := F_isrules.mk rs n h1 h2
    rw [hrr] at c1
    have c2 := F_isgoal.mk g n hg
    rw [hgo] at c2
    refine psd_cons (psd_if (k := false) (ptd_not (k := true) (ptd_val (pr_calln G_many hr2 (pad_cons (pd_v 1 rfl) pad_nil) c0))) (fun z => nomatch z) (fun _ => psd_nil ?_))
    refine psd_cons (psd_if (k := false) (ptd_not (k := true) (ptd_val (pr_calln G_rules hr (pad_cons (pd_v 2 rfl) (pad_cons (pd_v 1 rfl) pad_nil)) c1))) (fun z => nomatch z) (fun _ => psd_nil ?_))
    refine psd_cons (psd_if (k := true) (ptd_not (k := false) (ptd_val (pr_calln G_goal hr5 (pad_cons (pd_v 3 rfl) (pad_cons (pd_v 1 rfl) pad_nil)) c2))) (fun _ => ?_) (fun z => nomatch z))
    exact psd_one (psd_raiseO ES ⟨rfl, true, _, rfl⟩)
  | ok n a rules pl fs hn h1 h2 hrr hg hgo hp hFd =>
    have c0 := F_ismany.mk (.int n) rfl
    rw [hn] at c0
    have c1 := F_isrules.mk (.lst (rules.map rlD)) n h1 (fun l e x hx => by cases e; exact h2 x hx)
    rw [hrr] at c1
    have c2 := F_isgoal.mk (.tup [.int a, .str pl]) n hg
    rw [hgo] at c2
    refine psd_cons (psd_if (k := false) (ptd_not (k := true) (ptd_val (pr_calln G_many hr2 (pad_cons (pd_v 1 rfl) pad_nil) c0))) (fun z => nomatch z) (fun _ => psd_nil ?_))
    refine psd_cons (psd_if (k := false) (ptd_not (k := true) (ptd_val (pr_calln G_rules hr (pad_cons (pd_v 2 rfl) (pad_cons (pd_v 1 rfl) pad_nil)) c1))) (fun z => nomatch z) (fun _ => psd_nil ?_))
    refine psd_cons (psd_if (k := false) (ptd_not (k := true) (ptd_val (pr_calln G_goal hr5 (pad_cons (pd_v 3 rfl) (pad_cons (pd_v 1 rfl) pad_nil)) c2))) (fun z => nomatch z) (fun _ => psd_nil ?_))
    refine psd_cons (psd_asg (pd_v 3 rfl) (gd_tup rfl (gds_cons (gd_name 4 nd) (gds_cons (gd_name 5 nd) gds_nil))) ?_)
    refine psd_cons (psd_fset 0 RC.cl RC.many rfl (d := .int n) (pd_v 1 rfl) (by decide) ?_)
    refine psd_cons (psd_fset 0 RC.cl RC.rules rfl (d := .lst (rules.map rlD)) (PR.dat (o := .lst (rules.map rlD)) (pr_list Tx.b_list (pd_v 2 rfl) rfl)) (by show 1 < 1000; decide) ?_)
    refine psd_cons (psd_fset 0 RC.cl RC.own rfl (d := .lst ((ownAs n a pl pl.length).map adt)) (PR.dat (o := .lst ((ownAs n a pl pl.length).map adt)) (pr_calln G_own hr1 (pad_cons (pd_v 1 rfl) (pad_cons (pd_v 3 rfl) pad_nil)) (F_own.mk n a pl hp))) (by show 2 < 1000; decide) ?_)
    refine psd_cons (psd_fset 0 RC.cl RC.rooms rfl (d := .int (n + (pl.length : Int))) (pd_addI (pd_v 1 rfl) (pd_len Tx.b_len (pd_v 5 rfl) rfl (by show pl.length ≤ _; exact sz_le (by omega)))) (by show 3 < 1000; decide) ?_)
    refine psd_cons (psd_fset 0 RC.cl RC.end_ rfl (d := .int (endOf n a pl)) ?e (by show 4 < 1000; decide) ?_)
    case e =>
      cases he : pl.isEmpty with
      | true =>
        have e : endOf n a pl = a := by unfold endOf; rw [if_pos he]
        rw [e]
        exact pd_if (k := false) (ptd_k (ptd_truS (pd_v 5 rfl) (sz_le (by omega))) (by rw [he]; rfl)) (fun z => nomatch z) (fun _ => pd_v 4 rfl)
      | false =>
        have e : endOf n a pl = n + (pl.length : Int) - 1 := by unfold endOf; rw [if_neg (by rw [he]; exact Bool.false_ne_true)]
        rw [e]
        exact pd_if (k := true) (ptd_k (ptd_truS (pd_v 5 rfl) (sz_le (by omega))) (by rw [he]; rfl)) (fun _ => pd_subI (pr_viewB 0 1 rfl (pd_fld RC.cl RC.rooms (pd_v 0 rfl) rfl) rfl) pd_int) (fun z => nomatch z)
    refine psd_one (psd_exprM (pm_meth0 0 G_find hr rfl (by show ("_find_arrows" : Str) ∉ (["_many", "_rules", "_own", "_rooms", "_end"] : List Str); decide) hFd) ?_)
    exact ⟨rfl, true, rfl⟩
/-! ### rules, rooms, end -/
def rdrD (C : Addr) (fs : List (Str × Dt)) : Dt := (Ow.ins C fs).d
theorem sc_mrules : FnScope ["self"] ["self"] (defScope s_mrules) := ⟨rfl, rfl, rfl, by decide +kernel, rfl, by decide +kernel, by decide +kernel⟩
inductive F_mrules (C : Addr) : List Dt → Res → Prop where
  | mk (n e R : Int) (rules : List Rl) (own : List Arw) (W : List (Arw × Int)) (Z : Rsn) : F_mrules C [rdrD C (fs7 n rules own R e W Z)] (.own (.lst (rules.map rlD)))
theorem ok_mrules {f C : Addr} {fd : FuncData} (F : Fun K "rules" "Reader.rules" s_mrules f fd) (Tx : Txt mg) (RC : Rdr K C) : FnD P w K mg base T 1 f fd ["self"] (F_mrules C) := by
  refine fn_ok F sc_mrules fun cdv A outer s H E ds r hr hl hF => ?_
  cases hF with
  | mk n e R rules own W Z => exact psd_one (psd_retO (pr_list Tx.b_list (pd_fld RC.cl RC.rules (pd_v 0 rfl) rfl) rfl) rfl)
theorem sc_mrooms : FnScope ["self"] ["self"] (defScope s_mrooms) := ⟨rfl, rfl, rfl, by decide +kernel, rfl, by decide +kernel, by decide +kernel⟩
inductive F_mrooms (C : Addr) : List Dt → Res → Prop where
  | mk (n e R : Int) (rules : List Rl) (own : List Arw) (W : List (Arw × Int)) (Z : Rsn) : F_mrooms C [rdrD C (fs7 n rules own R e W Z)] (.val (.int R))
theorem ok_mrooms {f C : Addr} {fd : FuncData} (F : Fun K "rooms" "Reader.rooms" s_mrooms f fd) (RC : Rdr K C) : FnD P w K mg base T 1 f fd ["self"] (F_mrooms C) := by
  refine fn_ok F sc_mrooms fun cdv A outer s H E ds r hr hl hF => ?_
  cases hF with
  | mk n e R rules own W Z => exact psd_one (psd_ret (pd_fld RC.cl RC.rooms (pd_v 0 rfl) rfl) rfl)
theorem sc_mend : FnScope ["self"] ["self"] (defScope s_mend) := ⟨rfl, rfl, rfl, by decide +kernel, rfl, by decide +kernel, by decide +kernel⟩
inductive F_mend (C : Addr) : List Dt → Res → Prop where
  | mk (n e R : Int) (rules : List Rl) (own : List Arw) (W : List (Arw × Int)) (Z : Rsn) : F_mend C [rdrD C (fs7 n rules own R e W Z)] (.val (.int e))
theorem ok_mend {f C : Addr} {fd : FuncData} (F : Fun K "end" "Reader.end" s_mend f fd) (RC : Rdr K C) : FnD P w K mg base T 1 f fd ["self"] (F_mend C) := by
  refine fn_ok F sc_mend fun cdv A outer s H E ds r hr hl hF => ?_
  cases hF with
  | mk n e R rules own W Z => exact psd_one (psd_ret (pd_fld RC.cl RC.end_ (pd_v 0 rfl) rfl) rfl)
/-! ### is it an arrow -/
theorem sc_isarrow : FnScope ["thing", "weights", "room", "sign", "other"] ["thing", "weights"] (defScope s_isarrow) := ⟨rfl, rfl, rfl, by decide +kernel, rfl, by decide +kernel, by decide +kernel⟩
inductive F_isarrow : List Dt → Res → Prop where
  | mk (d : Dt) (W : List (Arw × Int)) (h : pl2 d = true) : F_isarrow [d, wD W] (.val (.bl (arrowD W d)))
theorem ok_isarrow {f : Addr} {fd : FuncData} (F : Fun K "is_arrow" "is_arrow" s_isarrow f fd) (Tx : Txt mg) (G_tuple : Callee P w K mg base T "is_tuple" 1 ["thing", "length"] F_tuple) (G_num : Callee P w K mg base T "is_number" 1 ["thing"] F_num) : FnD P w K mg base T 2 f fd ["thing", "weights"] F_isarrow := by
  refine fn_ok F sc_isarrow fun cdv A outer s H E ds r hr hl hF => ?_
  have nd := sc_isarrow.nd
  have hu64 := hr.units
  cases hF with
  | mk d W h =>
    have ct := F_tuple.mk d 3 (pl2_one h)
    cases hk : tupleD d 3 with
    | false =>
      rw [hk] at ct
      have e : arrowD W d = false := by
        unfold arrowD
        split
        · cases hk
        · rfl
      rw [e]
      refine psd_cons (psd_if (k := true) (ptd_not (k := false) (ptd_val (pr_calln G_tuple hr (pad_cons (pd_v 0 rfl) (pad_cons pd_int pad_nil)) ct))) (fun _ => ?_) (fun z => nomatch z))
      exact psd_one (psd_ret pd_bl rfl)
    | true =>
      rw [hk] at ct
      have hd : ∃ x y z, d = .tup [x, y, z] := by
        cases d with
        | tup l =>
          have hl : l.length = 3 := of_decide_eq_true hk
          match l, hl with
          | [x, y, z], _ => exact ⟨x, y, z, rfl⟩
        | _ => cases hk
      obtain ⟨x, y, z, rfl⟩ := hd
      have px := pl2_tup h x (by simp)
      have py := pl2_tup h y (by simp)
      have pz := pl2_tup h z (by simp)
      refine psd_cons (psd_if (k := false) (ptd_not (k := true) (ptd_val (pr_calln G_tuple hr (pad_cons (pd_v 0 rfl) (pad_cons pd_int pad_nil)) ct))) (fun z => nomatch z) (fun _ => psd_nil ?_))
      refine psd_cons (psd_asg (pd_v 0 rfl) (gd_tup rfl (gds_cons (gd_name 2 nd) (gds_cons (gd_name 3 nd) (gds_cons (gd_name 4 nd) gds_nil)))) ?_)
      have cx := F_num.mk x px
      cases hx : numD x with
      | false =>
        rw [hx] at cx
        have e : arrowD W (.tup [x, y, z]) = false := by cases x <;> first | rfl | cases hx
        rw [e]
        exact psd_one (psd_ret (pd_and (k := false) (l := false) (pr_calln G_num hr (pad_cons (pd_v 2 rfl) pad_nil) cx) fun z => nomatch z) rfl)
      | true =>
        rw [hx] at cx
        obtain ⟨a, rfl⟩ := num_of hx
        obtain ⟨n, h1, h2, h3⟩ := pl1_ty py
        cases hy : strB y with
        | false =>
          have e : arrowD W (.tup [.int a, y, z]) = false := by cases y <;> first | rfl | cases hy
          rw [e]
          refine psd_one (psd_ret (pd_and (k := true) (l := decide (n = "str") && false) (pr_calln G_num hr (pad_cons (pd_v 2 rfl) pad_nil) cx) fun _ => (pd_and (k := decide (n = "str")) (l := false) (pd_cmp op_isTy9 (nomark _) (pd_type Tx.b_type (pd_v 3 rfl) h1 h2) (pd_bty (n := "str") Tx.b_str (by decide +kernel)) (opd_eqTy h3 (by decide))) fun z => ?_)) ?_)
          · rw [ty_str h1, hy] at z; cases z
          · show _ = _
            rw [ty_str h1, hy]; rfl
        | true =>
          obtain ⟨l, rfl⟩ := str_of hy
          cases h1
          have cz := F_num.mk z pz
          cases hz : numD z with
          | false =>
            rw [hz] at cz
            have e : arrowD W (.tup [.int a, .str l, z]) = false := by cases z <;> first | rfl | cases hz
            rw [e]
            exact psd_one (psd_ret (pd_and (k := true) (l := false) (pr_calln G_num hr (pad_cons (pd_v 2 rfl) pad_nil) cx) fun _ => (pd_and (k := true) (l := false) (pd_cmp op_isTy9 (nomark _) (pd_type Tx.b_type (pd_v 3 rfl) rfl rfl) (pd_bty (n := "str") Tx.b_str (by decide +kernel)) (opd_eqTy (by decide) (by decide))) fun _ => (pd_and (k := false) (l := false) (pr_calln G_num hr (pad_cons (pd_v 4 rfl) pad_nil) cz) fun z => nomatch z))) rfl)
          | true =>
            rw [hz] at cz
            obtain ⟨b, rfl⟩ := num_of hz
            have hg := wD_get3 W a l b
            exact psd_one (psd_ret (pd_and (k := true) (pr_calln G_num hr (pad_cons (pd_v 2 rfl) pad_nil) cx) fun _ => (pd_and (k := true) (pd_cmp op_isTy9 (nomark _) (pd_type Tx.b_type (pd_v 3 rfl) rfl rfl) (pd_bty (n := "str") Tx.b_str (by decide +kernel)) (opd_eqTy (by decide) (by decide))) fun _ => (pd_and (k := true) (pr_calln G_num hr (pad_cons (pd_v 4 rfl) pad_nil) cz) fun _ => (pd_one (d := .bl _) (pd_din hu64 (pd_v 0 rfl) (pd_v 1 rfl) hg))))) (by show Dt.bl (true && (true && (true && ((arwOf W a l b).map Dt.int).isSome))) = Dt.bl (arwOf W a l b).isSome; cases arwOf W a l b <;> rfl))
/-! ### the checks, weight, least (for k04 on) -/
theorem sc_chka : FnScope ["self", "arrow"] ["self", "arrow"] (defScope s_chka) := ⟨rfl, rfl, rfl, by decide +kernel, rfl, by decide +kernel, by decide +kernel⟩
inductive F_chka (C NA : Addr) : List Dt → Res → Prop where
  | ok (n e R : Int) (rules : List Rl) (own : List Arw) (W : List (Arw × Int)) (Z : Rsn) (d : Dt) (h : pl2 d = true) (hd : arrowD W d = true) : F_chka C NA [rdrD C (fs7 n rules own R e W Z), d] (.val .non)
  | no (n e R : Int) (rules : List Rl) (own : List Arw) (W : List (Arw × Int)) (Z : Rsn) (d : Dt) (h : pl2 d = true) (hd : arrowD W d = false) : F_chka C NA [rdrD C (fs7 n rules own R e W Z), d] (.exc NA)
theorem ok_chka {f C NA : Addr} {fd : FuncData} (F : Fun K "_check_arrow" "Reader._check_arrow" s_chka f fd) (RC : Rdr K C) (EN : OwnExc K mg "NoArrow" NA) (G_is : Callee P w K mg base T "is_arrow" 2 ["thing", "weights"] F_isarrow) : FnD P w K mg base T 3 f fd ["self", "arrow"] (F_chka C NA) := by
  refine fn_ok F sc_chka fun cdv A outer s H E ds r hr hl hF => ?_
  cases hF with
  | ok n e R rules own W Z d h hd =>
    have c0 := F_isarrow.mk d W h
    rw [hd] at c0
    exact psd_one (psd_if (k := false) (ptd_not (k := true) (ptd_val (pr_calln G_is hr (pad_cons (pd_v 1 rfl) (pad_cons (pd_fld RC.cl RC.weights (pd_v 0 rfl) rfl) pad_nil)) c0))) (fun z => nomatch z) (fun _ => psd_nil rfl))
  | no n e R rules own W Z d h hd =>
    have c0 := F_isarrow.mk d W h
    rw [hd] at c0
    exact psd_one (psd_if (k := true) (ptd_not (k := false) (ptd_val (pr_calln G_is hr (pad_cons (pd_v 1 rfl) (pad_cons (pd_fld RC.cl RC.weights (pd_v 0 rfl) rfl) pad_nil)) c0))) (fun _ => psd_one (psd_raiseO EN rfl)) (fun z => nomatch z))
theorem sc_chks : FnScope ["self", "spot"] ["self", "spot"] (defScope s_chks) := ⟨rfl, rfl, rfl, by decide +kernel, rfl, by decide +kernel, by decide +kernel⟩
inductive F_chks (C BS : Addr) : List Dt → Res → Prop where
  | ok (n e R : Int) (rules : List Rl) (own : List Arw) (W : List (Arw × Int)) (Z : Rsn) (d : Dt) (h : pl2 d = true) (hd : spotD d n = true) : F_chks C BS [rdrD C (fs7 n rules own R e W Z), d] (.val .non)
  | no (n e R : Int) (rules : List Rl) (own : List Arw) (W : List (Arw × Int)) (Z : Rsn) (d : Dt) (h : pl2 d = true) (hd : spotD d n = false) : F_chks C BS [rdrD C (fs7 n rules own R e W Z), d] (.exc BS)
theorem ok_chks {f C BS : Addr} {fd : FuncData} (F : Fun K "_check_spot" "Reader._check_spot" s_chks f fd) (RC : Rdr K C) (EN : OwnExc K mg "BadSpot" BS) (G_is : Callee P w K mg base T "is_spot" 4 ["thing", "many"] F_spot) : FnD P w K mg base T 5 f fd ["self", "spot"] (F_chks C BS) := by
  refine fn_ok F sc_chks fun cdv A outer s H E ds r hr hl hF => ?_
  cases hF with
  | ok n e R rules own W Z d h hd =>
    have c0 := F_spot.mk d n h
    rw [hd] at c0
    exact psd_one (psd_if (k := false) (ptd_not (k := true) (ptd_val (pr_calln G_is hr (pad_cons (pd_v 1 rfl) (pad_cons (pd_fld RC.cl RC.many (pd_v 0 rfl) rfl) pad_nil)) c0))) (fun z => nomatch z) (fun _ => psd_nil rfl))
  | no n e R rules own W Z d h hd =>
    have c0 := F_spot.mk d n h
    rw [hd] at c0
    exact psd_one (psd_if (k := true) (ptd_not (k := false) (ptd_val (pr_calln G_is hr (pad_cons (pd_v 1 rfl) (pad_cons (pd_fld RC.cl RC.many (pd_v 0 rfl) rfl) pad_nil)) c0))) (fun _ => psd_one (psd_raiseO EN rfl)) (fun z => nomatch z))
theorem sc_mweight : FnScope ["self", "arrow"] ["self", "arrow"] (defScope s_mweight) := ⟨rfl, rfl, rfl, by decide +kernel, rfl, by decide +kernel, by decide +kernel⟩
inductive F_mweight (C NA : Addr) : List Dt → Res → Prop where
  | ok (n e R : Int) (rules : List Rl) (own : List Arw) (W : List (Arw × Int)) (Z : Rsn) (a : Arw) (x : Int) (h : pl2 (adt a) = true) (hd : lkG W a = some x) : F_mweight C NA [rdrD C (fs7 n rules own R e W Z), adt a] (.val (.int x))
  | no (n e R : Int) (rules : List Rl) (own : List Arw) (W : List (Arw × Int)) (Z : Rsn) (d : Dt) (h : pl2 d = true) (hd : arrowD W d = false) : F_mweight C NA [rdrD C (fs7 n rules own R e W Z), d] (.exc NA)
theorem ok_mweight {f C NA : Addr} {fd : FuncData} (F : Fun K "weight" "Reader.weight" s_mweight f fd) (RC : Rdr K C) (G_chk : CalleeM P w K mg base T C "_check_arrow" 3 ["self", "arrow"] (F_chka C NA)) : FnD P w K mg base T 4 f fd ["self", "arrow"] (F_mweight C NA) := by
  refine fn_ok F sc_mweight fun cdv A outer s H E ds r hr hl hF => ?_
  have hu64 := hr.units
  have nm : ("_check_arrow" : Str) ∉ (["_many", "_rules", "_own", "_rooms", "_end", "_weights", "_reasons"] : List Str) := by decide
  cases hF with
  | ok n e R rules own W Z a x h hd =>
    have ha : arrowD W (adt a) = true := by show (lkG W (a.1, a.2.1, a.2.2)).isSome = true; rw [show (a.1, a.2.1, a.2.2) = a from rfl, hd]; rfl
    have hg : dGet (wD W) (adt a) = some (some (.int x)) := by rw [wD_get, hd]; rfl
    refine psd_cons (psd_expr (pr_meth G_chk hr (pd_v 0 rfl) nm (pad_cons (pd_v 1 rfl) pad_nil) (F_chka.ok n e R rules own W Z _ h ha)) ?_)
    exact psd_one (psd_ret (pd_dget hu64 (pd_fld RC.cl RC.weights (pd_v 0 rfl) rfl) (pd_v 1 rfl) hg) rfl)
  | no n e R rules own W Z d h hd =>
    exact psd_cons (psd_exprX (pr_meth G_chk hr (pd_v 0 rfl) nm (pad_cons (pd_v 1 rfl) pad_nil) (F_chka.no n e R rules own W Z _ h hd)) rfl)
theorem sc_mleast : FnScope ["self", "spot", "state", "pile"] ["self", "spot"] (defScope s_mleast) := ⟨rfl, rfl, rfl, by decide +kernel, rfl, by decide +kernel, by decide +kernel⟩
inductive F_mleast (C BS : Addr) : List Dt → Res → Prop where
  | ok (n e : Int) (R : Nat) (rules : List Rl) (own : List Arw) (W : List (Arw × Int)) (Z : Rsn) (a : Int) (pl : List Nat) (hR : R ≤ 1000) (h : pl2 (.tup [.int a, .str pl]) = true) (hd : spotD (.tup [.int a, .str pl]) n = true) :
      F_mleast C BS [rdrD C (fs7 n rules own R e W Z), .tup [.int a, .str pl]] (.val (((lkG (readFrom W R a pl) e).map Dt.int).getD .non))
  | no (n e R : Int) (rules : List Rl) (own : List Arw) (W : List (Arw × Int)) (Z : Rsn) (d : Dt) (h : pl2 d = true) (hd : spotD d n = false) : F_mleast C BS [rdrD C (fs7 n rules own R e W Z), d] (.exc BS)
theorem ok_mleast {f C BS : Addr} {fd : FuncData} (F : Fun K "least" "Reader.least" s_mleast f fd) (RC : Rdr K C) (G_chk : CalleeM P w K mg base T C "_check_spot" 5 ["self", "spot"] (F_chks C BS)) (G_from : Callee P w K mg base T "read_from" 3 ["start", "text", "weights", "rooms"] F_from) : FnD P w K mg base T 6 f fd ["self", "spot"] (F_mleast C BS) := by
  refine fn_ok F sc_mleast fun cdv A outer s H E ds r hr hl hF => ?_
  have nd := sc_mleast.nd
  have hu64 := hr.units
  have hr3 : Room 3 _ := hr.mono (by decide : 3 ≤ 5)
  have nm : ("_check_spot" : Str) ∉ (["_many", "_rules", "_own", "_rooms", "_end", "_weights", "_reasons"] : List Str) := by decide
  cases hF with
  | ok n e R rules own W Z a pl hR h hd =>
    refine psd_cons (psd_expr (pr_meth G_chk hr (pd_v 0 rfl) nm (pad_cons (pd_v 1 rfl) pad_nil) (F_chks.ok n e R rules own W Z _ h hd)) ?_)
    refine psd_cons (psd_asg (pd_v 1 rfl) (gd_tup rfl (gds_cons (gd_name 2 nd) (gds_cons (gd_name 3 nd) gds_nil))) ?_)
    exact psd_one (psd_ret (pd_dget1 hu64 (PR.dat (o := .dk (rkd (readFrom W R a pl))) (pr_calln G_from hr3 (pad_cons (pd_v 2 rfl) (pad_cons (pd_v 3 rfl) (pad_cons (pd_fld RC.cl RC.weights (pd_v 0 rfl) rfl) (pad_cons (pd_fld RC.cl RC.rooms (pd_v 0 rfl) rfl) pad_nil)))) (F_from.mk a pl W R hR))) (pd_fld RC.cl RC.end_ (pd_v 0 rfl) rfl) (rD_get _ _)) rfl)
  | no n e R rules own W Z d h hd =>
    exact psd_cons (psd_exprX (pr_meth G_chk hr (pd_v 0 rfl) nm (pad_cons (pd_v 1 rfl) pad_nil) (F_chks.no n e R rules own W Z _ h hd)) rfl)
/-! ### the arrows are found -/
theorem find_exists (C : Addr) (n e : Int) (rules : List Rl) (own : List Arw) (R : Nat) (hR : R ≤ 1000) (ho : own.length ≤ 1000) (hl : rules.length ≤ 12) (ht : ∀ r ∈ rules, 0 ≤ r.t ∧ r.t < (R : Int)) (hp : ∀ r ∈ rules, r.p.length ≤ 1000) :
    ∃ W Z, F_find C (.ins C (fs5 n rules own R e)) [] (.ok .non (.ins C (fs7 n rules own R e W Z))) ∧ Closed R rules W ∧ Good (allA R rules own) W := by
  obtain ⟨m, h1, h2, h3, h4, h5, h6⟩ := weights_rest (own := own) ht
  have hb : rules.length * R ≤ 12 * 1000 := Nat.mul_le_mul hl hR
  exact ⟨_, _, .mk n e rules own R _ _ (F_weights.mk rules own R m hR ho ht (fun i hi => by have := h1 i hi; omega) h2 h3) (F_reasons.mk rules own _ R hR ho (by omega) ht hp (fun r hr room hm => by obtain ⟨x, hx, _⟩ := h5 r hr room hm; exact ⟨x, hx⟩) fun r hr room hm => way_of_read (ht r hr) hm), h5, h6⟩
/-! ### the script's cells -/
theorem sc_cell : FnScope ["_law_script", "_law_k"] ["_law_script", "_law_k"] (defScope s_cell) := ⟨rfl, rfl, rfl, by decide +kernel, rfl, by decide +kernel, by decide +kernel⟩
inductive F_cell : List Dt → Res → Prop where
  | mk (ns : List Int) (k : Nat) : F_cell [.scr ns, .int (k : Int)] (.val (.int (cell ns k)))
theorem ok_cell {f : Addr} {fd : FuncData} (F : Fun K "_law_cell_at" "_law_cell_at" s_cell f fd) (Tx : Txt mg) : FnD P w K mg base T 1 f fd ["_law_script", "_law_k"] F_cell := by
  refine fn_ok F sc_cell fun cdv A outer s H E ds r hr hl hF => ?_
  have nd := sc_cell.nd
  cases hF with
  | mk ns k =>
    refine psd_cons (psd_if (ptd_cmp op_lt (nomark _) (pd_v 1 rfl) (pd_len Tx.b_len (pd_v 0 rfl) rfl) opd_cmpI) (fun hc => ?_) (fun hc => ?_))
    · have hk := of_decide_eq_true hc
      refine psd_one (psd_ret (pd_ix (pd_v 0 rfl) (pd_v 1 rfl) (dix_scr (Int.natCast_nonneg k) hk)) ?_)
      show _ = _
      unfold cell
      simp
    · have hk := of_decide_eq_false hc
      refine psd_nil (psd_one (psd_ret pd_int ?_))
      show _ = _
      unfold cell
      have : ns.length ≤ k := by omega
      simp [List.getD, this]
/-! ### the three signs -/
theorem sc_signs : FnScope ["_law_cell", "_law_letters", "_law_places", "_law_place"] ["_law_cell"] (defScope s_signs) := ⟨rfl, rfl, rfl, by decide +kernel, rfl, by decide +kernel, by decide +kernel⟩
inductive F_signs : List Dt → Res → Prop where
  | mk (c : Int) : F_signs [.int c] (.own (.lst ((sg3 c).map fun g => .str [g])))
theorem ok_signs {f : Addr} {fd : FuncData} (F : Fun K "_law_signs" "_law_signs" s_signs f fd) (Tx : Txt mg) : FnD P w K mg base T 1 f fd ["_law_cell"] F_signs := by
  refine fn_ok F sc_signs fun cdv A outer s H E ds r hr hl hF => ?_
  have nd := sc_signs.nd
  cases hF with
  | mk c =>
    refine psd_cons (psd_set 1 nd (d := .str abc) (pd_strE (by decide +kernel)) ?_)
    refine psd_cons (psd_set 2 nd (d := .lst (([c, c + 1 + c / 26 % 12, c + 13 + c / 312 % 12] : List Int).map .int)) (pr_lst (pad_cons (pd_v 0 rfl) (pad_cons (pd_addI (pd_addI (pd_v 0 rfl) pd_int) (pd_modI (pd_divI (pd_v 0 rfl) pd_int ⟨by decide, by decide⟩) pd_int (by decide))) (pad_cons (pd_addI (pd_addI (pd_v 0 rfl) pd_int) (pd_modI (pd_divI (pd_v 0 rfl) pd_int ⟨by decide, by decide⟩) pd_int (by decide))) pad_nil)))).dat ?_)
    refine psd_one (psd_retO (pr_lc rfl nd (blkOk_by (N := ["_law_cell", "_law_letters", "_law_places", "_law_place"]) (sc := defScope s_signs) (own := [("_law_place", 3)]) (by decide +kernel)) (pid_list (pd_v 2 rfl)) (outs := ([c, c + 1 + c / 26 % 12, c + 13 + c / 312 % 12] : List Int).map fun x => .str [sgn x]) rfl (by simp; decide) ?_) rfl)
    intro i d o h1 h2
    obtain ⟨x, _, rfl, rfl⟩ := map_get2 h1 h2
    refine ⟨[3], _, by simp, fun s0 H0 C cl fp => gd_name 3 nd, fun s0 H0 C cl fp => ?_⟩
    exact pd_ix (pd_v 1 rfl) (pd_modI (pd_v 3 rfl) pd_int (by decide)) (dix_str (Int.emod_nonneg _ (by decide)) (Int.emod_lt_of_pos _ (by decide))) (by show abc.length ≤ _; decide)
/-! ### the numbers mixed -/
theorem sc_mixed : FnScope ["_law_cell", "_law_k"] ["_law_cell", "_law_k"] (defScope s_mixed) := ⟨rfl, rfl, rfl, by decide +kernel, rfl, by decide +kernel, by decide +kernel⟩
inductive F_mixed : List Dt → Res → Prop where
  | mk (c : Int) (k : Nat) (h : k < 100000) : F_mixed [.int c, .int (k : Int)] (.val (.int (mixed c k)))
theorem ok_mixed {f : Addr} {fd : FuncData} (F : Fun K "_law_mixed" "_law_mixed" s_mixed f fd) : FnD P w K mg base T 1 f fd ["_law_cell", "_law_k"] F_mixed := by
  refine fn_ok F sc_mixed fun cdv A outer s H E ds r hr hl hF => ?_
  have nd := sc_mixed.nd
  cases hF with
  | mk c k h =>
    exact psd_one (psd_ret (pd_modI (pd_mulI (pd_modI (pd_mulI (pd_addI (pd_addI (pd_v 0 rfl) (pd_mulI (pd_mulI pd_int (pd_v 1 rfl) cm_l) (pd_v 1 rfl) (.inr ⟨by omega, by omega⟩))) (pd_mulI pd_int (pd_v 1 rfl) cm_l)) pd_int cm_r) pd_int (by decide)) pd_int cm_r) pd_int (by decide)) rfl)
/-! ### a rule -/
theorem sc_rule : FnScope ["_law_cell", "_law_many", "_law_signs_here", "_law_some", "_law_size", "_law_push", "_law_k"] ["_law_cell", "_law_many", "_law_signs_here"] (defScope s_rule) := ⟨rfl, rfl, rfl, by decide +kernel, rfl, by decide +kernel, by decide +kernel⟩
inductive F_rule : List Dt → Res → Prop where
  | mk (c many : Int) (l : List Nat) (hm : 0 < many) (hm2 : many ≤ 5) (hl : l.length = 3) : F_rule [.int c, .int many, .lst (l.map fun g => .str [g])] (.val (rlD (lawRl c many l)))
theorem len3 {l : List Nat} (h : l.length = 3) : ∃ a b c, l = [a, b, c] := match l, h with | [a, b, c], _ => ⟨a, b, c, rfl⟩
theorem mod_bounds (c : Int) {m : Int} (h : 0 < m) : 0 ≤ c % m ∧ c % m < m := ⟨Int.emod_nonneg _ (by omega), Int.emod_lt_of_pos _ h⟩
theorem ok_rule {f : Addr} {fd : FuncData} (F : Fun K "_law_rule" "_law_rule" s_rule f fd) (Tx : Txt mg) : FnD P w K mg base T 1 f fd ["_law_cell", "_law_many", "_law_signs_here"] F_rule := by
  refine fn_ok F sc_rule fun cdv A outer s H E ds r hr hl hF => ?_
  have nd := sc_rule.nd
  cases hF with
  | mk c many l hm hm2 hl3 =>
    obtain ⟨ga, gb, gc, rfl⟩ := len3 hl3
    have b5 := mod_bounds (c / 5) (m := 5) (by decide)
    have b8 := mod_bounds (c / 125) (m := 8) (by decide)
    refine psd_cons (psd_set 3 nd (d := .lst ((some5 [ga, gb, gc]).map fun g => .str [g])) (pr_lst (pad_cons (pd_ix (pd_v 2 rfl) pd_int rfl) (pad_cons (pd_ix (pd_v 2 rfl) pd_int rfl) (pad_cons (pd_ix (pd_v 2 rfl) pd_int rfl) (pad_cons (pd_ix (pd_v 2 rfl) pd_int rfl) (pad_cons (pd_ix (pd_v 2 rfl) pd_int rfl) pad_nil)))))).dat ?_)
    have hsz : L2.atI (([0, 0, 1, 1, 1, 2, 2, 2] : List Int).map Dt.int) (c / 125 % 8) = some (.int ((pushN c : Nat) : Int)) := by
      have h := dix_ints (l := [0, 0, 1, 1, 1, 2, 2, 2]) b8.1 b8.2
      have e : (([0, 0, 1, 1, 1, 2, 2, 2] : List Int).getD (c / 125 % 8).toNat 0) = ((pushN c : Nat) : Int) := by
        unfold pushN
        have : (([0, 0, 1, 1, 1, 2, 2, 2] : List Int)) = ([0, 0, 1, 1, 1, 2, 2, 2] : List Nat).map (fun n => ((n : Nat) : Int)) := rfl
        rw [this]
        simp only [List.getD_eq_getElem?_getD, List.getElem?_map]
        cases ([0, 0, 1, 1, 1, 2, 2, 2] : List Nat)[(c / 125 % 8).toNat]? <;> rfl
      rw [e] at h
      exact h
    refine psd_cons (psd_set 4 nd (d := .int ((pushN c : Nat) : Int)) (pd_ix (pr_lst (pad_cons pd_int (pad_cons pd_int (pad_cons pd_int (pad_cons pd_int (pad_cons pd_int (pad_cons pd_int (pad_cons pd_int (pad_cons pd_int pad_nil))))))))).dat (pd_modI (pd_divI (pd_v 0 rfl) pd_int ⟨by decide, by decide⟩) pd_int (by decide)) hsz) ?_)
    have hp := pushN_le c
    have hzs : ((List.range (pushN c)).map fun (k : Nat) => [(some5 [ga, gb, gc]).getD (c / (1000 + 4000 * (k : Int)) % 5).toNat 0]).flatten = (lawRl c many [ga, gb, gc]).p := by
      unfold lawRl
      simp only
      generalize List.range (pushN c) = rg
      induction rg with
      | nil => rfl
      | cons a r ih => rw [List.map_cons, List.flatten_cons, List.map_cons, ih]; rfl
    refine psd_cons (psd_set 5 nd (d := .str (lawRl c many [ga, gb, gc]).p) ?push ?_)
    case push =>
      rw [← hzs]
      refine pd_join rfl (zs := (List.range (pushN c)).map fun (k : Nat) => [(some5 [ga, gb, gc]).getD (c / (1000 + 4000 * (k : Int)) % 5).toNat 0]) (PR.dat (o := .lst _) (pr_lc rfl nd (blkOk_by (N := ["_law_cell", "_law_many", "_law_signs_here", "_law_some", "_law_size", "_law_push", "_law_k"]) (sc := defScope s_rule) (own := [("_law_k", 6)]) (by decide +kernel)) (pid_range1 Tx.b_range (pd_v 4 rfl) (by omega) (by omega)) ?hl ?hz ?turn)) ?hj
      case hl => rw [rangeN_len]; simp
      case hz => rw [rangeN_len]; exact Nat.lt_of_le_of_lt (m := 2) (by simpa using hp) (by decide)
      case hj => rw [hzs]; exact Nat.le_trans (lawRl_p _ _ _) (by decide)
      case turn =>
        intro i d o h1 h2
        rw [Int.toNat_natCast] at h1
        rw [List.map_map] at h2
        obtain ⟨hi, rfl, rfl⟩ := rangeN_get2 h1 h2
        refine ⟨[6], _, by simp, fun s0 H0 C cl fp => gd_name 6 nd, fun s0 H0 C cl fp => ?_⟩
        have b5' := mod_bounds (c / (1000 + 4000 * (i : Int))) (m := 5) (by decide)
        refine pd_ix (pd_v 3 rfl) (pd_modI (pd_divI (pd_v 0 rfl) (pd_addI pd_int (pd_mulI pd_int (pd_v 6 rfl) cm_l)) ⟨by omega, by omega⟩) pd_int (by decide)) ?_
        have hlt : (c / (1000 + 4000 * (i : Int)) % 5).toNat < (some5 [ga, gb, gc]).length := by show _ < 5; omega
        rw [dix_map (x := (some5 [ga, gb, gc]).getD (c / (1000 + 4000 * (i : Int)) % 5).toNat 0) b5'.1 (by rw [List.getElem?_eq_getElem hlt, List.getD_eq_getElem?_getD, List.getElem?_eq_getElem hlt]; rfl)]
        rfl
    have hlt : (c / 5 % 5).toNat < (some5 [ga, gb, gc]).length := by show _ < 5; omega
    refine psd_one (psd_ret (pd_tup (pad_cons (pd_modI (pd_v 0 rfl) (pd_v 1 rfl) hm) (pad_cons (pd_ix (pd_v 3 rfl) (pd_modI (pd_divI (pd_v 0 rfl) pd_int ⟨by decide, by decide⟩) pd_int (by decide)) (dix_map (x := (some5 [ga, gb, gc]).getD (c / 5 % 5).toNat 0) b5.1 (by rw [List.getElem?_eq_getElem hlt, List.getD_eq_getElem?_getD, List.getElem?_eq_getElem hlt]; rfl))) (pad_cons (pd_modI (pd_divI (pd_v 0 rfl) pd_int ⟨by decide, by decide⟩) (pd_v 1 rfl) hm) (pad_cons (pd_v 5 rfl) pad_nil))))) ?_)
    rfl
/-! ### a reader made over a list that is handed in -/
theorem im_rules (rules : List Rl) : imtR 3 (.own (.lst (rules.map rlD))) = true := List.all_eq_true.mpr fun d hd => by
  obtain ⟨r, _, rfl⟩ := List.mem_map.mp hd
  rfl
inductive F_init2 (C : Addr) : Ow → Ow → Dt → Dt → Ow → Prop where
  | ok (n a : Int) (rules : List Rl) (pl : List Nat) (fs : List (Str × Dt)) (hn : manyD (.int n) = true) (h1 : pl1 (.lst (rules.map rlD)) = true) (h2 : ∀ x ∈ rules.map rlD, pl2 x = true) (hr : rulesD (.lst (rules.map rlD)) n = true) (hg : pl2 (.tup [.int a, .str pl]) = true) (hgo : goalD (.tup [.int a, .str pl]) n = true) (hp : pl.length ≤ 1000)
      (hF : F_find C (.ins C (fs5 n rules (ownAs n a pl pl.length) (n + (pl.length : Int)) (endOf n a pl))) [] (.ok .non (.ins C fs))) : F_init2 C (.ins C []) (.lst (rules.map rlD)) (.int n) (.tup [.int a, .str pl]) (.ins C fs)
theorem ok_init2 {f C : Addr} {fd : FuncData} (F : Fun K "__init__" "Reader.__init__" s_init f fd) (Tx : Txt mg) (RC : Rdr K C)
    (G_many : Callee P w K mg base T "is_many" 2 ["thing"] F_ismany) (G_rules : Callee P w K mg base T "is_rule_list" 6 ["thing", "many"] F_isrules) (G_goal : Callee P w K mg base T "is_goal" 5 ["thing", "many"] F_isgoal) (G_own : Callee P w K mg base T "own_arrows" 1 ["many", "goal"] F_own)
    (G_find : CalleeI P w K mg base T C "_find_arrows" 6 ["self"] (F_find C)) : FnI2 P w K mg base T 7 f fd ["self", "many", "rules", "goal"] (F_init2 C) := by
  refine fn_okI2 F sc_init rfl (by decide) fun cdv A outer s H E l l2 o o2 d1 d3 o' hr hF => ?_
  have nd := sc_init.nd
  have hr1 : Room 1 _ := hr.mono (by decide : 1 ≤ 6)
  have hr2 : Room 2 _ := hr.mono (by decide : 2 ≤ 6)
  have hr5 : Room 5 _ := hr.mono (by decide : 5 ≤ 6)
  cases hF with
  | ok n a rules pl fs hn h1 h2 hrr hg hgo hp hFd =>
    have c0 := F_ismany.mk (.int n) rfl
    rw [hn] at c0
    have c1 := F_isrules.mk (.lst (rules.map rlD)) n h1 (fun l e x hx => by cases e; exact h2 x hx)
    rw [hrr] at c1
    have c2 := F_isgoal.mk (.tup [.int a, .str pl]) n hg
    rw [hgo] at c2
    refine psd_cons (psd_if (k := false) (ptd_not (k := true) (ptd_val (pr_calln G_many hr2 (pad_cons (pd_v 1 rfl) pad_nil) c0))) (fun z => nomatch z) (fun _ => psd_nil ?_))
    refine psd_cons (psd_if (k := false) (ptd_viewB 2 rfl (ptd_not (k := true) (ptd_val (pr_calln G_rules hr (pad_cons (pd_v 2 rfl) (pad_cons (pd_v 1 rfl) pad_nil)) c1)))) (fun z => nomatch z) (fun _ => psd_nil ?_))
    refine psd_cons (psd_if (k := false) (ptd_not (k := true) (ptd_val (pr_calln G_goal hr5 (pad_cons (pd_v 3 rfl) (pad_cons (pd_v 1 rfl) pad_nil)) c2))) (fun z => nomatch z) (fun _ => psd_nil ?_))
    refine psd_cons (psd_asg (pd_v 3 rfl) (gd_tup rfl (gds_cons (gd_name 4 nd) (gds_cons (gd_name 5 nd) gds_nil))) ?_)
    refine psd_cons (psd_fset 0 RC.cl RC.many rfl (d := .int n) (pd_v 1 rfl) (by decide) ?_)
    refine psd_cons (psd_fset 0 RC.cl RC.rules rfl (d := .lst (rules.map rlD)) (PR.dat (o := .lst (rules.map rlD)) (pr_viewB 2 3 rfl (pr_list Tx.b_list (pd_v 2 rfl) rfl) (im_rules rules))) (by show 1 < 1000; decide) ?_)
    refine psd_cons (psd_fset 0 RC.cl RC.own rfl (d := .lst ((ownAs n a pl pl.length).map adt)) (PR.dat (o := .lst ((ownAs n a pl pl.length).map adt)) (pr_calln G_own hr1 (pad_cons (pd_v 1 rfl) (pad_cons (pd_v 3 rfl) pad_nil)) (F_own.mk n a pl hp))) (by show 2 < 1000; decide) ?_)
    refine psd_cons (psd_fset 0 RC.cl RC.rooms rfl (d := .int (n + (pl.length : Int))) (pd_addI (pd_v 1 rfl) (pd_len Tx.b_len (pd_v 5 rfl) rfl (by show pl.length ≤ _; exact sz_le (by omega)))) (by show 3 < 1000; decide) ?_)
    refine psd_cons (psd_fset 0 RC.cl RC.end_ rfl (d := .int (endOf n a pl)) ?e (by show 4 < 1000; decide) ?_)
    case e =>
      cases he : pl.isEmpty with
      | true =>
        have e : endOf n a pl = a := by unfold endOf; rw [if_pos he]
        rw [e]
        exact pd_if (k := false) (ptd_k (ptd_truS (pd_v 5 rfl) (sz_le (by omega))) (by rw [he]; rfl)) (fun z => nomatch z) (fun _ => pd_v 4 rfl)
      | false =>
        have e : endOf n a pl = n + (pl.length : Int) - 1 := by unfold endOf; rw [if_neg (by rw [he]; exact Bool.false_ne_true)]
        rw [e]
        exact pd_if (k := true) (ptd_k (ptd_truS (pd_v 5 rfl) (sz_le (by omega))) (by rw [he]; rfl)) (fun _ => pd_subI (pr_viewB 0 1 rfl (pd_fld RC.cl RC.rooms (pd_v 0 rfl) rfl) rfl) pd_int) (fun z => nomatch z)
    refine psd_one (psd_exprM (pm_meth0 0 G_find hr rfl (by show ("_find_arrows" : Str) ∉ (["_many", "_rules", "_own", "_rooms", "_end"] : List Str); decide) hFd) ?_)
    exact ⟨⟨true, rfl⟩, true, rfl⟩
end
end K14

set_option Elab.async false
set_option linter.all false
set_option maxRecDepth 100000
set_option maxHeartbeats 2000000
/-! LM14: tables of fewer rules weigh no less. -/
namespace LM
open PySem PySem.Spec L2 DL
section
variable {n : Nat} {rs rs' : List Rl} {own : List Arw} {W W' : List (Arw × Int)}
/-- a walk whose arrows another table weighs no more -/
theorem WalkC.decAt (nn : ∀ k v, lkG W k = some v → 0 ≤ v) {b : Int} : ∀ {t : List Nat} {a c : Int}, WalkC W n a t b c → (∀ k x, lkG W k = some x → x ≤ c → ∃ x', lkG W' k = some x' ∧ x' ≤ x) → ∃ c', WalkC W' n a t b c' ∧ c' ≤ c
  | [], a, c, ⟨h1, h2⟩, _ => ⟨c, ⟨h1, h2⟩, Int.le_refl _⟩
  | g :: t, a, c, ⟨m, x, c2, h0, h1, h2, h3, e⟩, d => by
    have hx := nn _ _ h2
    have hc := h3.nn nn
    obtain ⟨x', k1, k2⟩ := d _ x h2 (by omega)
    obtain ⟨c3, k3, k4⟩ := WalkC.decAt nn h3 fun k y hy hl => d k y hy (by omega)
    exact ⟨x' + c3, ⟨m, x', c3, h0, h1, k1, k3, rfl⟩, by omega⟩
theorem fewer_at (sn : Snd n rs own W) (cl : Closed n rs' W') (ow : ∀ a ∈ own, lkG W' a = some 0) (sub : ∀ r ∈ rs, r ∈ rs') : ∀ (m : Nat) (k : Arw) (v : Int), v ≤ m → lkG W k = some v → ∃ v', lkG W' k = some v' ∧ v' ≤ v
  | m, k, v, hm, h => by
    have hv := sn.nn k v h
    rcases sn.rsn k v h with q | ⟨r, hr, room, c, e, hw, hc⟩
    · exact ⟨0, ow k q, hv⟩
    · have hc0 := hw.nn sn.nn
      match m, hm with
      | 0, hm => omega
      | m + 1, hm =>
        obtain ⟨c', h1, h2⟩ := hw.decAt sn.nn fun j x hx hl => fewer_at sn cl ow sub m j x (by omega) hx
        obtain ⟨v1, h3, h4⟩ := read_le _ h1
        have hmem : room ∈ (readFrom W' n r.t r.p).map (·.1) := by
          have : ((readFrom W' n r.t r.p).any fun p => decide (p.1 = room)) = true := by rw [lkG_any, h3]; rfl
          obtain ⟨p, hp, e⟩ := List.any_eq_true.mp this
          exact List.mem_map.mpr ⟨p, hp, of_decide_eq_true e⟩
        obtain ⟨x, k1, k2⟩ := cl r (sub r hr) room hmem
        rw [h3] at k2
        have k2 : x ≤ v1 + 1 := k2
        exact ⟨x, by rw [e]; exact k1, by omega⟩
/-- tables of fewer rules weigh no less -/
theorem fewer (sn : Snd n rs own W) (cl : Closed n rs' W') (ow : ∀ a ∈ own, lkG W' a = some 0) (sub : ∀ r ∈ rs, r ∈ rs') : Dec W' W := fun k v h => fewer_at sn cl ow sub v.toNat k v (by omega) h
theorem dec_read (d : Dec W' W) {a b v : Int} {t : List Nat} (h : lkG (readFrom W n a t) b = some v) : ∃ v', lkG (readFrom W' n a t) b = some v' ∧ v' ≤ v := by
  obtain ⟨c, h1, h2⟩ := (read_walk t h).dec d
  obtain ⟨v', h3, h4⟩ := read_le t h1
  exact ⟨v', h3, by omega⟩
theorem dec_eq (d : Dec W' W) (d' : Dec W W') (k : Arw) : lkG W k = lkG W' k := by
  cases h : lkG W k with
  | none =>
    cases h' : lkG W' k with
    | none => rfl
    | some v =>
      obtain ⟨x, k1, _⟩ := d' k v h'
      rw [h] at k1
      cases k1
  | some v =>
    obtain ⟨x, k1, k2⟩ := d k v h
    obtain ⟨y, k3, k4⟩ := d' k x k1
    rw [h] at k3
    have : v = y := Option.some.inj k3
    rw [k1, show v = x by omega]
theorem dec_read_eq (d : Dec W' W) (d' : Dec W W') (a b : Int) (t : List Nat) : lkG (readFrom W n a t) b = lkG (readFrom W' n a t) b := by
  cases h : lkG (readFrom W n a t) b with
  | none =>
    cases h' : lkG (readFrom W' n a t) b with
    | none => rfl
    | some v =>
      obtain ⟨x, k1, _⟩ := dec_read d' h'
      rw [h] at k1
      cases k1
  | some v =>
    obtain ⟨x, k1, k2⟩ := dec_read d h
    obtain ⟨y, k3, k4⟩ := dec_read d' k1
    rw [h] at k3
    have : v = y := Option.some.inj k3
    rw [k1, show v = x by omega]
/-- the same arrows in the same order -/
theorem sort_eq (n1 : (W.map (·.1)).Nodup) (n2 : (W'.map (·.1)).Nodup) (h : ∀ k, lkG W k = lkG W' k) : sortA (W.map (·.1)) = sortA (W'.map (·.1)) := by
  have mem : ∀ {V : List (Arw × Int)} {k : Arw}, k ∈ V.map (·.1) ↔ (lkG V k).isSome = true := fun {V k} => by
    rw [← lkG_any, List.any_eq_true, List.mem_map]
    exact ⟨fun ⟨p, h, e⟩ => ⟨p, h, decide_eq_true e⟩, fun ⟨p, h, e⟩ => ⟨p, h, of_decide_eq_true e⟩⟩
  have hp : (W.map (·.1)).Perm (W'.map (·.1)) := (List.perm_ext_iff_of_nodup n1 n2).mpr fun k => by rw [mem, mem, h k]
  exact sortA_of (sortA_up _) ((sortA_perm _).trans hp.symm)
end
end LM

set_option Elab.async false
set_option linter.all false
set_option maxRecDepth 100000
set_option maxHeartbeats 2000000
/-! DL30: ==, != of dicts whose keys are tuples and whose values are whole numbers, where they are equal. -/
namespace PySem.W
open PySem PySem.Calls PyProof.Rows PySem.Spec
section
variable {prog : Program} {w : World} {K : Type} [DecidableEq K] {knd : HeapKind prog w K} {A : Around} {E : Value → Shared → Prop} {s : Shared}
theorem samePairsH {nm : String} {a b : Addr} {xa xb : List (K × Addr × Value)} {Q : Bool → Shared → Prop} (ha : (a == sysModules) = false) (hb : (b == sysModules) = false)
    (da : s.heap.DictOfH knd a xa) (db : s.heap.DictOfH knd b xb) (hu : knd.room A) (hl : xa.length = xb.length)
    (hits : ∀ (i : Nat) (x : K × Addr × Value), xa[i]? = some x → ∃ (j : Nat) (y : K × Addr × Value), xb[j]? = some y ∧ y.1 = x.1 ∧ SeqAt.EqP prog w A s x.2.2 y.2.2 true) (h : Q true s) :
    wpAny (model prog w) A (Builtin.Dict.samePairs nm a b) Q E s := by
  obtain ⟨oa, es, ep, hoa, _, hda, hea, hia, hna⟩ := da
  obtain ⟨ob, es', ep', hob, _, hdb, heb, hib, hnb⟩ := db
  have hla : es.size = xa.length := size_of_entries hea
  have hlb : es'.size = xb.length := size_of_entries heb
  unfold Builtin.Dict.samePairs Builtin.Dict.showsAll
  rw [if_neg (show ¬ (a == sysModules) = true by rw [ha]; exact Bool.false_ne_true), if_neg (show ¬ (b == sysModules) = true by rw [hb]; exact Bool.false_ne_true)]
  refine wpAny_bind (wpAny_pure (wpAny_bind (wpAny_pure ?_)))
  refine wpAny_bind (wpAny_dictEntries hoa hda ?_)
  dsimp only
  refine wpAny_bind (wpAny_dictEntries hob hdb ?_)
  rw [if_neg (by rw [hla, hlb, hl]; simp)]
  refine wpAny_bind (wpAny_dictEpoch hoa hda ?_)
  refine wpAny_bind ?_
  rw [Std.Legacy.Range.forIn_eq_forIn_range']
  simp only [Std.Legacy.Range.size, Nat.sub_zero, Nat.add_sub_cancel, Nat.div_one]
  refine wpAny_forIn_list _
    (fun rest q s' => s' = s ∧ q = (none, ()) ∧ ∃ i, rest = List.range' i (es.size - i) ∧ i ≤ es.size)
    _ ?_ ?_ _ _ ⟨rfl, rfl, 0, by simp, Nat.zero_le _⟩
  · rintro x rest q s' ⟨rfl, rfl, i, hr, hi⟩
    have hlt : i < es.size := by
      rcases Nat.lt_or_ge i es.size with h | h
      · exact h
      · rw [Nat.sub_eq_zero_of_le h] at hr; simp at hr
    obtain ⟨rfl, hrest⟩ : x = i ∧ rest = List.range' (i + 1) (es.size - (i + 1)) := by
      have e : es.size - i = (es.size - (i + 1)) + 1 := by omega
      rw [e, List.range'_succ] at hr
      injection hr with h1 h2
      exact ⟨h1, h2⟩
    refine wpAny_bind (wpAny_dictEntries hoa hda ?_)
    have hlt' : x < xa.length := by rw [← hla]; exact hlt
    rw [entry_at hea x, List.getElem?_eq_getElem hlt']
    have hxi := List.getElem?_eq_getElem hlt'
    have hki := hia _ (List.getElem_mem hlt')
    generalize xa[x] = t at hxi hki
    obtain ⟨k, ad, v⟩ := t
    obtain ⟨j, y, hj, hy, heq⟩ := hits x _ hxi
    show wpAny _ _ (holding [Value.ref ad, v] _ >>= _) _ _ _
    refine wpAny_bind (wpAny_holding (wpAny_bind (wpAny_dictFind_heap hu hki hob hdb heb hib hnb (fun hno => ?_) (fun j' p hj' => ?_))))
    · obtain ⟨k2, ad2, v2⟩ := y
      have hy : k2 = k := hy
      subst hy
      exact absurd hj (hno j (ad2, v2))
    · have ej : j' = j ∧ y = (k, p) := by
        obtain ⟨h1, e1⟩ := List.getElem?_eq_some_iff.mp hj'
        obtain ⟨h2, e2⟩ := List.getElem?_eq_some_iff.mp hj
        have e3 : j' = j := by
          rcases Nat.lt_trichotomy j' j with z | z | z
          · have := (List.pairwise_iff_getElem.mp hnb) j' j (by rw [List.length_map]; exact h1) (by rw [List.length_map]; exact h2) z
            rw [List.getElem_map, List.getElem_map, e1, e2] at this
            exact absurd hy.symm this
          · exact z
          · have := (List.pairwise_iff_getElem.mp hnb) j j' (by rw [List.length_map]; exact h2) (by rw [List.length_map]; exact h1) z
            rw [List.getElem_map, List.getElem_map, e1, e2] at this
            exact absurd hy this
        subst e3
        exact ⟨rfl, by rw [← e2, e1]⟩
      obtain ⟨rfl, rfl⟩ := ej
      refine wpAny_bind (wpAny_dictEntries hob hdb ?_)
      rw [entry_at heb j', hj']
      refine wpAny_holding (heq _ _ ?_)
      show wpAny _ _ (if (!true) = true then _ else _) _ _ _
      rw [if_neg (by decide)]
      refine wpAny_bind (wpAny_dictEpoch hoa hda ?_)
      rw [if_neg (by simp)]
      exact wpAny_pure ⟨rfl, rfl, x + 1, hrest, hlt⟩
  · rintro q s' ⟨rfl, rfl, i, hr, hi⟩
    exact wpAny_pure h
theorem rcH_dicts {a b : Addr} {xa xb : List (K × Addr × Value)} (ha : (a == sysModules) = false) (hb : (b == sysModules) = false)
    (da : s.heap.DictOfH knd a xa) (db : s.heap.DictOfH knd b xb) (hu : A.units < cLine) (hr : knd.room A.in1) (hl : xa.length = xb.length)
    (hits : ∀ (i : Nat) (x : K × Addr × Value), xa[i]? = some x → ∃ (j : Nat) (y : K × Addr × Value), xb[j]? = some y ∧ y.1 = x.1 ∧ SeqAt.EqP prog w A.in1 s x.2.2 y.2.2 true) (E Q : Value → Shared → Prop) (h : Q (.bool true) s) : wpAny (model prog w) A (richCompare .Eq (.ref a) (.ref b)) Q E s := by
  have ta : s.TypeIs (.ref a) "dict" := by obtain ⟨o, _, _, h1, h2, _⟩ := id da; exact ⟨o, h1, h2.1⟩
  have tb : s.TypeIs (.ref b) "dict" := by obtain ⟨o, _, _, h1, h2, _⟩ := id db; exact ⟨o, h1, h2.1⟩
  refine wpAny_richCompare_same_room (op := .Eq) ta tb PySem.F.slot_dict_eq (wpAny_call_entry PySem.F.slot_dict_eq ta PySem.F.entry_dict_eq ?_ (PySem.F.args_dict_eq_2 _ _)) hu
  show wpAny _ _ (Builtin.Dict.dictSlotArgs "__eq__" ⟨[.ref a, .ref b], []⟩ >>= _) _ _ s
  refine wpAny_bind ?_
  unfold Builtin.Dict.dictSlotArgs
  refine wpAny_bind (wpAny_notOrdered_dict ta ?_)
  show wpAny _ _ (pure (Value.ref a, Value.ref b)) _ _ s
  refine wpAny_pure ?_
  refine wpAny_bind (wpAny_isInstance (T := "dict") tb PySem.F.sub_dict_dict ?_)
  simp only [Bool.not_true, Bool.false_eq_true, if_false]
  refine wpAny_bind (wpAny_pure (wpAny_bind (wpAny_pure ?_)))
  refine wpAny_bind (samePairsH ha hb da db hr hl hits ?_)
  refine wpAny_pure ⟨_, rfl, ?_, ?_⟩
  · exact fun x => nomatch x
  · simpa using h
theorem rcH_dictsNe {a b : Addr} {xa xb : List (K × Addr × Value)} (ha : (a == sysModules) = false) (hb : (b == sysModules) = false)
    (da : s.heap.DictOfH knd a xa) (db : s.heap.DictOfH knd b xb) (hu : A.units < cLine) (hr : knd.room A.in1) (hl : xa.length = xb.length)
    (hits : ∀ (i : Nat) (x : K × Addr × Value), xa[i]? = some x → ∃ (j : Nat) (y : K × Addr × Value), xb[j]? = some y ∧ y.1 = x.1 ∧ SeqAt.EqP prog w A.in1 s x.2.2 y.2.2 true) (E Q : Value → Shared → Prop) (h : Q (.bool false) s) : wpAny (model prog w) A (richCompare .NotEq (.ref a) (.ref b)) Q E s := by
  have ta : s.TypeIs (.ref a) "dict" := by obtain ⟨o, _, _, h1, h2, _⟩ := id da; exact ⟨o, h1, h2.1⟩
  have tb : s.TypeIs (.ref b) "dict" := by obtain ⟨o, _, _, h1, h2, _⟩ := id db; exact ⟨o, h1, h2.1⟩
  refine wpAny_richCompare_same_room (op := .NotEq) ta tb PySem.F.slot_dict_ne (wpAny_call_entry PySem.F.slot_dict_ne ta PySem.F.entry_dict_ne ?_ (PySem.F.args_dict_ne_2 _ _)) hu
  show wpAny _ _ (Builtin.Dict.dictSlotArgs "__ne__" ⟨[.ref a, .ref b], []⟩ >>= _) _ _ s
  refine wpAny_bind ?_
  unfold Builtin.Dict.dictSlotArgs
  refine wpAny_bind (wpAny_notOrdered_dict ta ?_)
  show wpAny _ _ (pure (Value.ref a, Value.ref b)) _ _ s
  refine wpAny_pure ?_
  refine wpAny_bind (wpAny_isInstance (T := "dict") tb PySem.F.sub_dict_dict ?_)
  simp only [Bool.not_true, Bool.false_eq_true, if_false]
  refine wpAny_bind (wpAny_pure (wpAny_bind (wpAny_pure ?_)))
  refine wpAny_bind (samePairsH ha hb da db hr hl hits ?_)
  refine wpAny_pure ⟨_, rfl, ?_, ?_⟩
  · exact fun x => nomatch x
  · simpa using h
end
end PySem.W
namespace L2
open PySem PySem.Spec PySem.W
def DEq (H : Hp) (x y : V) : Prop := ∃ a b kvs kvs', x = .ref a ∧ y = .ref b ∧ Rd H a (.dT kvs) ∧ Rd H b (.dT kvs') ∧ kvs.length = kvs'.length ∧ ∀ kv ∈ kvs, kv ∈ kvs' ∧ ∃ i, kv.2 = .int i
def rEqDT : R2 := fun x y H Q => DEq H x y ∧ Q (.bl true) H
def rNeDT : R2 := fun x y H Q => DEq H x y ∧ Q (.bl false) H
theorem kt_at {H : Hp} : ∀ {kvs : List (List Key × V)} {xs : List (List Key × Addr × Value)}, KT H kvs xs → (∀ (i : Nat) x, xs[i]? = some x → ∃ kv, kvs[i]? = some kv ∧ kv.1 = x.1 ∧ RelV kv.2 x.2.2) ∧ (∀ (i : Nat) kv, kvs[i]? = some kv → ∃ x, xs[i]? = some x ∧ kv.1 = x.1 ∧ RelV kv.2 x.2.2) ∧ kvs.length = xs.length
  | _, _, .nil => ⟨fun i x h => by simp at h, fun i x h => by simp at h, rfl⟩
  | _, _, .cons h t => by
    obtain ⟨h1, h2, h3⟩ := kt_at t
    refine ⟨fun i x hx => ?_, fun i kv hx => ?_, by rw [List.length_cons, List.length_cons, h3]⟩
    · cases i with
      | zero => simp at hx; subst hx; exact ⟨_, rfl, h.1, h.2.2⟩
      | succ i => exact h1 i x (by simpa using hx)
    · cases i with
      | zero => simp at hx; subst hx; exact ⟨_, rfl, h.1, h.2.2⟩
      | succ i => exact h2 i kv (by simpa using hx)
theorem deq_hits {X : Cx} {pins : List (Addr × Obj)} {σ : St} {H : Hp} {s : Shared} {a b : Addr} {kvs kvs' : List (List Key × V)} {A : Around} (I : Inv X pins σ H s) (ha : Rd H a (.dT kvs)) (hb : Rd H b (.dT kvs')) (hl : kvs.length = kvs'.length) (hm : ∀ kv ∈ kvs, kv ∈ kvs' ∧ ∃ i, kv.2 = .int i) :
    ∃ xa xb, (a == sysModules) = false ∧ (b == sysModules) = false ∧ s.heap.DictOfH (tupleKind (mixKind X.prog X.w)) a xa ∧ s.heap.DictOfH (tupleKind (mixKind X.prog X.w)) b xb ∧ xa.length = xb.length ∧
      ∀ (i : Nat) (x : List Key × Addr × Value), xa[i]? = some x → ∃ (j : Nat) (y : List Key × Addr × Value), xb[j]? = some y ∧ y.1 = x.1 ∧ SeqAt.EqP X.prog X.w A s x.2.2 y.2.2 true := by
  obtain ⟨_, na, xa, ka, da⟩ := dt_rd I.hok ha
  obtain ⟨_, nb, xb, kb, db⟩ := dt_rd I.hok hb
  obtain ⟨a1, a2, a3⟩ := kt_at ka
  obtain ⟨b1, b2, b3⟩ := kt_at kb
  refine ⟨xa, xb, na, nb, da, db, by omega, fun i x hx => ?_⟩
  obtain ⟨kv, h1, h2, h3⟩ := a1 i x hx
  obtain ⟨h4, n, h5⟩ := hm kv (List.mem_of_getElem? h1)
  obtain ⟨j, hj⟩ := List.mem_iff_getElem?.mp h4
  obtain ⟨y, k1, k2, k3⟩ := b2 j kv hj
  refine ⟨j, y, k1, k2.symm.trans h2, ?_⟩
  rw [h5] at h3 k3
  obtain ⟨t, h3⟩ := h3
  obtain ⟨u, k3⟩ := k3
  rw [h3, k3]
  intro E Q hq
  refine SeqAt.EqAt.int_int n t n u X.prog X.w E Q ?_
  rw [show (n == n) = true from by simp]
  exact hq
theorem op_eqDT {X : Cx} (hu : X.A.units + 64 < cLine) : OpR X (compareOp .Eq) rEqDT := by
  intro pins s σ H x y v u Q I rx ry h
  obtain ⟨⟨a, b, kvs, kvs', rfl, rfl, ha, hb, hl, hm⟩, q⟩ := h
  cases rx
  cases ry
  obtain ⟨xa, xb, na, nb, da, db, hx, hits⟩ := deq_hits (A := X.A.in1) I ha hb hl hm
  exact rcH_dicts na nb da db (by omega) (show X.A.in1.units < cLine by show X.A.units + 1 < cLine; omega) hx hits _ _ ⟨.bl true, H, I, rfl, q⟩
theorem op_neDT {X : Cx} (hu : X.A.units + 64 < cLine) : OpR X (compareOp .NotEq) rNeDT := by
  intro pins s σ H x y v u Q I rx ry h
  obtain ⟨⟨a, b, kvs, kvs', rfl, rfl, ha, hb, hl, hm⟩, q⟩ := h
  cases rx
  cases ry
  obtain ⟨xa, xb, na, nb, da, db, hx, hits⟩ := deq_hits (A := X.A.in1) I ha hb hl hm
  exact rcH_dictsNe na nb da db (by omega) (show X.A.in1.units < cLine by show X.A.units + 1 < cLine; omega) hx hits _ _ ⟨.bl false, H, I, rfl, q⟩
end L2
namespace DL
open PySem PySem.Spec L2
section
variable {X : Cx} {T : List Addr}
theorem wD_kvs {K : PySem.W.Frag} {F : Hp} {v : V} {A : List (LM.Arw × Int)} (h : Rp K F v (LM.wD A)) : ∃ a, v = .ref a ∧ Rd F a (.dT (A.map fun p => (LM.akey p.1, V.int p.2))) := by
  have h : Rp K F v (.dt ((LM.wkd A).map (·.1)) ((LM.wkd A).map (·.2))) := h
  cases h with
  | @dt a kvs _ _ hrd hk hl hi =>
    have e : kvs = A.map fun p => (LM.akey p.1, V.int p.2) := by
      have hk : kvs.map (·.1) = A.map fun p => LM.akey p.1 := hk.trans (LM.tab_keys A)
      have hv : (LM.wkd A).map (·.2) = A.map fun p => Dt.int p.2 := LM.tab_vals A
      refine List.ext_getElem? fun i => ?_
      have e1 : (kvs.map (·.1))[i]? = (A.map fun p => LM.akey p.1)[i]? := by rw [hk]
      rw [List.getElem?_map, List.getElem?_map] at e1
      rw [List.getElem?_map]
      cases hA : A[i]? with
      | none =>
        rw [hA] at e1
        cases hkv : kvs[i]? with
        | none => rfl
        | some kv => rw [hkv] at e1; cases e1
      | some p =>
        rw [hA] at e1
        cases hkv : kvs[i]? with
        | none => rw [hkv] at e1; cases e1
        | some kv =>
          rw [hkv] at e1
          have e1 : kv.1 = LM.akey p.1 := Option.some.inj e1
          have r := hi i kv (.int p.2) hkv (by rw [hv, List.getElem?_map, hA]; rfl)
          have e2 : kv.2 = .int p.2 := r.int_of
          show some kv = some (LM.akey p.1, V.int p.2)
          rw [← e1, ← e2]
    subst e
    exact ⟨a, rfl, hrd⟩
theorem deqW {H : Hp} {O : List Addr} {x y : V} {A B : List (LM.Arw × Int)} {K : PySem.W.Frag} (r1 : Rp K (mask H O) x (LM.wD A)) (r2 : Rp K (mask H O) y (LM.wD B)) (hl : A.length = B.length) (h : ∀ p ∈ A, p ∈ B) : DEq H x y := by
  obtain ⟨a, rfl, h1⟩ := wD_kvs r1
  obtain ⟨b, rfl, h2⟩ := wD_kvs r2
  have un : ∀ {a : Addr} {u : HO}, Rd (mask H O) a u → Rd H a u := fun {a u} z => z.elim (fun z => .inl (mask_some z).1) fun ⟨o, z⟩ => .inr ⟨o, (mask_some z).1⟩
  refine ⟨a, b, _, _, rfl, rfl, un h1, un h2, by rw [List.length_map, List.length_map, hl], fun kv hkv => ?_⟩
  obtain ⟨p, hp, rfl⟩ := List.mem_map.mp hkv
  exact ⟨List.mem_map.mpr ⟨p, h p hp, rfl⟩, p.2, rfl⟩
theorem opd_eqW {A B : List (LM.Arw × Int)} (hl : A.length = B.length) (h : ∀ p ∈ A, p ∈ B) : OpD X T rEqDT (LM.wD A) (LM.wD B) (.val (.bl true)) := fun fm L O σ H Δ Q W x y tk s r1 r2 q => ⟨deqW r1 r2 hl h, q _ H Gr.refl s (.bl _)⟩
theorem opd_neW {A B : List (LM.Arw × Int)} (hl : A.length = B.length) (h : ∀ p ∈ A, p ∈ B) : OpD X T rNeDT (LM.wD A) (LM.wD B) (.val (.bl false)) := fun fm L O σ H Δ Q W x y tk s r1 r2 q => ⟨deqW r1 r2 hl h, q _ H Gr.refl s (.bl _)⟩
end
end DL

set_option Elab.async false
set_option linter.all false
set_option maxRecDepth 100000
set_option maxHeartbeats 2000000
/-! DL31: dict(zip(keys, values)) of two lists. -/
namespace L2
open PySem PySem.Spec
def tDictZ (K : PySem.W.Frag) (ta : TA) : TE := fun σ H Q => ta σ H fun vs H1 => ∃ (a b : Addr) (kvs : List (Key × V)), vs = [V.ref a, V.ref b] ∧ SqL K H1 a (kvs.map fun kv => kV kv.1) ∧ SqL K H1 b (kvs.map (·.2)) ∧ kvs.length ≤ 1000 ∧ ∀ p, H1 p = none → Q (.ref p) (upd H1 p (.dK (mergeK [] kvs)))
theorem zip_rel {P : Program} {w : World} : ∀ {kvs : List (Key × V)} {us ws : List Value}, Vals (kvs.map fun kv => kV kv.1) us → Vals (kvs.map (·.2)) ws → ∃ prs : List (Key × Value), KV kvs prs ∧ prs.length = min us.length ws.length ∧ prs.length = kvs.length ∧ ∀ (i : Nat) (key v : Value), us[i]? = some key → ws[i]? = some v → ∃ k, prs[i]? = some (k, v) ∧ (mixKind P w).is k key = true
  | [], us, ws, r1, r2 => by
    cases r1
    cases r2
    exact ⟨[], .nil, rfl, rfl, fun i key v h => by simp at h⟩
  | kv :: kvs, us, ws, r1, r2 => by
    rw [List.map_cons] at r1 r2
    cases r1 with
    | cons h1 t1 => cases r2 with
      | cons h2 t2 =>
        obtain ⟨prs, k1, k2, k3, k4⟩ := zip_rel (P := P) (w := w) t1 t2
        refine ⟨(kv.1, _) :: prs, .cons ⟨rfl, h2⟩ k1, ?_, by rw [List.length_cons, List.length_cons, k3], fun i key v g1 g2 => ?_⟩
        · rw [List.length_cons, List.length_cons, List.length_cons, k2, Nat.succ_min_succ]
        · cases i with
          | zero =>
            simp at g1 g2
            subst g1
            subst g2
            exact ⟨_, rfl, kV_is h1⟩
          | succ i =>
            obtain ⟨k, q1, q2⟩ := k4 i key v (by simpa using g1) (by simpa using g2)
            exact ⟨k, by simpa using q1, q2⟩
theorem pe_dictZ {X : Cx} {e e2 : Expr} {ta : TA} {p p2 pos pos2 : Pos} (hcalm : X.calm = true) (hm : X.mg "dict" = none) (hmz : X.mg "zip" = none) (ha : PA X [e, e2] ta) (hg : Gl X "dict" := by rfl) (hgz : Gl X "zip" := by rfl)
    (hs : starEach [e, e2] X.env = (false, eval e X.env) :: starEach [e2] X.env := by rfl) (hpl : (backTo pos2 (starEach [e2] X.env)).any (·.1) = false := by rfl)
    (hs2 : starEach [.Call (.Name "zip" p2) [e, e2] [] pos2] X.env = (false, eval (.Call (.Name "zip" p2) [e, e2] [] pos2) X.env) :: starEach [] X.env := by rfl) (hpl2 : (backTo pos (starEach [] X.env)).any (·.1) = false := by rfl) :
    PE X (.Call (.Name "dict" p) [.Call (.Name "zip" p2) [e, e2] [] pos2] [] pos) (tDictZ X.K ta) := by
  refine ⟨fun pins s σ H Q I h => ?_⟩
  refine wpAny_Call_Name_kw (ld_blt I hg hm PyProof.Rows.boot_dict ?_ (by decide) (by decide))
  refine PyProof.Rows.callWith_type1 ?_ hs2 hpl2
  rw [hs2]
  show wpAny _ _ (spliced ((false, eval (.Call (.Name "zip" p2) [e, e2] [] pos2) X.env) :: [])) _ _ s
  refine Calls.spliced_cons ?_
  refine wpAny_Call_Name_kw (ld_blt I hgz hmz PyProof.Rows.boot_zip ?_ (by decide) (by decide))
  refine PyProof.Rows.callWith_type1 (thn (ha.run pos2 pins s σ H _ I h) fun us s1 ⟨vs, H1, I1, r1, q1⟩ => ?_) hs hpl
  obtain ⟨a, b, kvs, ex, hqx, hqy, hz, q⟩ := q1
  subst ex
  cases r1 with
  | cons r rr => cases rr with
    | cons r' rr =>
      cases rr
      cases r
      cases r'
      obtain ⟨its, rv, p1, _⟩ := I1.list hqx
      obtain ⟨its2, rv2, p2', _⟩ := I1.list hqy
      have la : a < s1.heap.objs.size := p1.lt
      have lb : b < s1.heap.objs.size := p2'.lt
      refine call_zip_2 p1.isList p2'.isList fun h' hz' hTI hTO h1 h2 hsz hk => Calls.spliced_nil ?_
      obtain ⟨prs, k1, k2, k3, k4⟩ := zip_rel (P := X.prog) (w := X.w) rv rv2
      have D := PySem.W.ktu_apart s1.heap.objs.size a b la lb
      have hm' : (h'.objs.size == sysModules) = false := beq_eq_false_iff_ne.mpr (Nat.ne_of_gt (by rw [hsz]; exact Nat.lt_of_lt_of_le I1.big (Nat.le_add_right _ _)))
      have hlen : (mergeK [] kvs).length ≤ sizeLine := by
        refine Nat.le_trans (length_mergeK kvs []) ?_
        rw [List.length_nil, Nat.zero_add, sizeLine_eq]
        omega
      have hle : s1.heap.objs.size ≤ h'.objs.size := by rw [hsz]; exact Nat.le_add_right _ _
      refine PySem.call_dict_pairs (s := { s1 with heap := h' }) (knd := mixKind X.prog X.w) (kvs := prs) (PairArg.zip (s1.heap.objs.size + 4) (s1.heap.objs.size + 2) (s1.heap.objs.size + 3) s1.heap.objs.size (s1.heap.objs.size + 1) a b D its.toArray its2.toArray) (I.ok.hd hcalm)
        ⟨hz', hTI, ⟨_, _, hTO⟩, h1, h2, p1.isList.at fun o x => hk _ o x, p2'.isList.at fun o x => hk _ o x⟩ ⟨by simpa using k2, fun i key v hr => k4 i key v (by simpa using hr.1) (by simpa using hr.2)⟩ (by rw [sizeLine_eq]; have := k2; have := k3; simp; omega) fun h2' tk hd' hk' => ?_
      refine ⟨.ref h'.objs.size, upd H1 h'.objs.size (.dK (mergeK [] kvs)), I1.laid (t' := tk) (fun c o ec => hk' c o (fun hmem => ?_) (hk c o ec)) hle (show ObjOk X.prog X.w _ _ _ (.dK (mergeK [] kvs)) from ⟨hlen, hm', merged [] prs, KV.merge k1 .nil, hd'⟩), rfl, q _ (I1.hok.fresh hle)⟩
      have hc := Heap.lt_size ec
      simp only [List.mem_cons, List.not_mem_nil, or_false] at hmem
      rcases hmem with z | z | z | z <;> (rw [z] at hc; first | exact absurd hc (Nat.lt_irrefl _) | exact absurd hc (Nat.not_lt.mpr (Nat.le_add_right _ _)))
end L2
namespace DL
open PySem PySem.Spec L2
section
variable {X : Cx} {T : List Addr} {Δ : DEnv} {e e2 : Expr} {p p2 pos pos2 : Pos}
/-- texts as they are put into a dict, one behind the other -/
def zipK (ks : List (List Nat)) (ds : List Dt) : List (Key × Dt) := ((ks.map fun l => (Sum.inr ⟨l.toArray⟩ : Key)).zip ds).foldl (fun acc q => putD acc q.1 q.2) []
theorem merge_put {K : PySem.W.Frag} {F : Hp} : ∀ {kvs acc : List (Key × V)} {kds acc' : List (Key × Dt)}, KRp K F kvs kds → KRp K F acc acc' → KRp K F (mergeK acc kvs) (kds.foldl (fun a q => putD a q.1 q.2) acc')
  | [], acc, kds, acc', h, h2 => by
    have : kds = [] := by
      have := h.len
      cases kds with
      | nil => rfl
      | cons => simp at this
    subst this
    exact h2
  | kv :: kvs, acc, kds, acc', h, h2 => by
    cases kds with
    | nil => have := h.len; simp at this
    | cons kd kds =>
      obtain ⟨hk, hv⟩ := h
      rw [List.map_cons, List.map_cons] at hk hv
      injection hk with hk1 hk2
      obtain ⟨v, r, e, r1, r2⟩ := hv.uncons
      injection e with e1 e3
      subst e1
      subst e3
      have h3 : KRp K F (putK acc kv.1 kv.2) (putD acc' kd.1 kd.2) := by
        rw [hk1]
        exact put_rel h2 r1
      show KRp K F (mergeK (putK acc kv.1 kv.2) kvs) (kds.foldl (fun a q => putD a q.1 q.2) (putD acc' kd.1 kd.2))
      exact merge_put ⟨hk2, r2⟩ h3
theorem pr_dictZ {ks : List (List Nat)} {ds : List Dt} (hcalm : X.calm = true) (hm : X.mg "dict" = none) (hmz : X.mg "zip" = none) (ha : PD X T Δ e (.lst (ks.map .str))) (hb : PD X T Δ e2 (.lst ds)) (hl : ks.length = ds.length) (hz : ks.length ≤ 1000) (hg : Gl X "dict" := by rfl) (hgz : Gl X "zip" := by rfl)
    (hs : starEach [e, e2] X.env = (false, eval e X.env) :: starEach [e2] X.env := by rfl) (hse : starEach [e2] X.env = (false, eval e2 X.env) :: starEach [] X.env := by rfl) (hpl : (backTo pos2 (starEach [e2] X.env)).any (·.1) = false := by rfl)
    (hs2 : starEach [.Call (.Name "zip" p2) [e, e2] [] pos2] X.env = (false, eval (.Call (.Name "zip" p2) [e, e2] [] pos2) X.env) :: starEach [] X.env := by rfl) (hpl2 : (backTo pos (starEach [] X.env)).any (·.1) = false := by rfl) :
    PR X T Δ (.Call (.Name "dict" p) [.Call (.Name "zip" p2) [e, e2] [] pos2] [] pos) (.own (.dk (zipK ks ds))) :=
  .of (pe_dictZ hcalm hm hmz canA_ok hg hgz hs hpl hs2 hpl2) fun fm L O σ H Q W tk s q => (pad_cons ha (pad_cons hb pad_nil hse) hs).run fm L O σ H _ W tk s fun vs H1 g1 s1 ra => by
    obtain ⟨v1, r1, e1, ra1, ra2⟩ := ra.uncons
    subst e1
    obtain ⟨v2, r2, e2', rb1, rb2⟩ := ra2.uncons
    subst e2'
    have e3 := rb2.unnil
    subst e3
    obtain ⟨a, xs, rfl, ga, rx⟩ := ra1.lst_of
    obtain ⟨b, ys, rfl, gb, ry⟩ := rb1.lst_of
    have hxs : xs = ks.map fun l => V.str ⟨l.toArray⟩ := by
      refine List.ext_getElem? fun i => ?_
      rw [List.getElem?_map]
      cases hk : ks[i]? with
      | none =>
        have : xs[i]? = none := by
          rw [List.getElem?_eq_none_iff] at hk ⊢
          rw [rx.len, List.length_map]
          exact hk
        rw [this]; rfl
      | some l =>
        obtain ⟨x, h1, h2⟩ := rx.get (d := .str l) (by rw [List.getElem?_map, hk]; rfl)
        rw [h1, h2.str_of]; rfl
    have hyl : ys.length = ks.length := by rw [ry.len, hl]
    refine ⟨a, b, (ks.map fun l => (Sum.inr ⟨l.toArray⟩ : Key)).zip ys, rfl, ?_, ?_, ?_, fun p hp => ?_⟩
    · have e : ((ks.map fun l => (Sum.inr ⟨l.toArray⟩ : Key)).zip ys).map (fun kv => kV kv.1) = xs := by
        rw [show (fun kv : Key × V => kV kv.1) = kV ∘ Prod.fst from rfl, ← List.map_map, List.map_fst_zip (by rw [List.length_map, hyl]; exact Nat.le_refl _), List.map_map, hxs]
        rfl
      rw [e]
      exact .of (s1.out ga)
    · have e : ((ks.map fun l => (Sum.inr ⟨l.toArray⟩ : Key)).zip ys).map (·.2) = ys := List.map_snd_zip (by rw [List.length_map, hyl]; exact Nat.le_refl _)
      rw [e]
      exact .of (s1.out gb)
    · rw [List.length_zip, List.length_map, hyl, Nat.min_self]
      exact hz
    · refine (q.back s s1 g1).new s1 hp ⟨_, upd_same, merge_put ⟨?_, ?_⟩ ⟨rfl, .nil⟩⟩
      · rw [List.map_fst_zip (by rw [List.length_map, hyl]; exact Nat.le_refl _), List.map_fst_zip (by rw [List.length_map, hl]; exact Nat.le_refl _)]
      · rw [List.map_snd_zip (by rw [List.length_map, hyl]; exact Nat.le_refl _), List.map_snd_zip (by rw [List.length_map, hl]; exact Nat.le_refl _)]
        exact ry
end
end DL

set_option Elab.async false
set_option linter.all false
set_option maxRecDepth 100000
set_option maxHeartbeats 4000000
namespace K14
open PySem PySem.Spec L2 DL LM
section
variable {P : Program} {w : World} {K : PySem.W.Frag} {mg : Str → Option Value} {base : Heap} {T : List Addr}
/-! ### the rules, the goal -/
theorem sc_lrules : FnScope ["_law_script", "_law_many", "_law_signs_here", "_law_size", "_law_k"] ["_law_script", "_law_many", "_law_signs_here"] (defScope s_lrules) := ⟨rfl, rfl, rfl, by decide +kernel, rfl, by decide +kernel, by decide +kernel⟩
inductive F_lrules : List Dt → Res → Prop where
  | mk (ns : List Int) (many : Int) (sl : List Nat) (hm : 0 < many) (hm2 : many ≤ 5) (hl : sl.length = 3) : F_lrules [.scr ns, .int many, .lst (sl.map fun g => .str [g])] (.own (.lst ((rlsOf ns many sl (rszN ns)).map rlD)))
theorem ok_lrules {f : Addr} {fd : FuncData} (F : Fun K "_law_rules" "_law_rules" s_lrules f fd) (Tx : Txt mg) (G_cell : Callee P w K mg base T "_law_cell_at" 1 ["_law_script", "_law_k"] F_cell) (G_mixed : Callee P w K mg base T "_law_mixed" 1 ["_law_cell", "_law_k"] F_mixed) (G_rule : Callee P w K mg base T "_law_rule" 1 ["_law_cell", "_law_many", "_law_signs_here"] F_rule) : FnD P w K mg base T 2 f fd ["_law_script", "_law_many", "_law_signs_here"] F_lrules := by
  refine fn_ok F sc_lrules fun cdv A outer s H E ds r hr hl hF => ?_
  have nd := sc_lrules.nd
  cases hF with
  | mk ns many sl hm hm2 hl3 =>
    have b10 := mod_bounds (cell ns 2) (m := 10) (by decide)
    have hsz : L2.atI (([12, 9, 11, 7, 12, 10, 4, 12, 8, 0] : List Int).map Dt.int) (cell ns 2 % 10) = some (.int ((rszN ns : Nat) : Int)) := by
      have h := dix_ints (l := [12, 9, 11, 7, 12, 10, 4, 12, 8, 0]) b10.1 b10.2
      have e : (([12, 9, 11, 7, 12, 10, 4, 12, 8, 0] : List Int).getD (cell ns 2 % 10).toNat 0) = ((rszN ns : Nat) : Int) := by
        unfold rszN
        have : (([12, 9, 11, 7, 12, 10, 4, 12, 8, 0] : List Int)) = ([12, 9, 11, 7, 12, 10, 4, 12, 8, 0] : List Nat).map (fun n => ((n : Nat) : Int)) := rfl
        rw [this]
        simp only [List.getD_eq_getElem?_getD, List.getElem?_map]
        cases ([12, 9, 11, 7, 12, 10, 4, 12, 8, 0] : List Nat)[(cell ns 2 % 10).toNat]? <;> rfl
      rw [e] at h
      exact h
    refine psd_cons (psd_set 3 nd (d := .int ((rszN ns : Nat) : Int)) (pd_ix (pr_lst (pad_cons pd_int (pad_cons pd_int (pad_cons pd_int (pad_cons pd_int (pad_cons pd_int (pad_cons pd_int (pad_cons pd_int (pad_cons pd_int (pad_cons pd_int (pad_cons pd_int pad_nil))))))))))).dat (pd_modI (pr_calln G_cell hr (pad_cons (pd_v 0 rfl) (pad_cons pd_int pad_nil)) (F_cell.mk ns 2)) pd_int (by decide)) hsz) ?_)
    have hp := rszN_le ns
    refine psd_one (psd_retO (o := .lst ((List.range (rszN ns)).map fun (k : Nat) => rlD (lawRl (mixed (cell ns (6 + k)) k) many sl))) (pr_lc rfl nd (blkOk_by (N := ["_law_script", "_law_many", "_law_signs_here", "_law_size", "_law_k"]) (sc := defScope s_lrules) (own := [("_law_k", 4)]) (by decide +kernel)) (pid_range1 Tx.b_range (pd_v 3 rfl) (by omega) (by omega)) ?hl ?hz ?turn) ?fin)
    case hl => rw [rangeN_len]; simp
    case hz => rw [rangeN_len]; exact Nat.lt_of_le_of_lt (m := 12) (by simpa using hp) (by decide)
    case fin =>
      show Ow.lst _ = Ow.lst _
      unfold rlsOf
      rw [List.map_map]
      rfl
    case turn =>
      intro i d o h1 h2
      rw [Int.toNat_natCast] at h1
      obtain ⟨hi, rfl, rfl⟩ := rangeN_get2 h1 h2
      refine ⟨[4], _, by simp, fun s0 H0 C cl fp => gd_name 4 nd, fun s0 H0 C cl fp => ?_⟩
      exact pr_calln G_rule hr (pad_cons (pr_calln G_mixed hr (pad_cons (pr_calln G_cell hr (pad_cons (pd_v 0 rfl) (pad_cons (pd_addI pd_int (pd_v 4 rfl)) pad_nil)) (F_cell.mk ns (6 + i))) (pad_cons (pd_v 4 rfl) pad_nil)) (F_mixed.mk _ i (by omega))) (pad_cons (pd_v 1 rfl) (pad_cons (pd_v 2 rfl) pad_nil))) (.mk _ many sl hm hm2 hl3)
theorem sc_lgoal : FnScope ["_law_cell", "_law_many", "_law_signs_here", "_law_some", "_law_k"] ["_law_cell", "_law_many", "_law_signs_here"] (defScope s_lgoal) := ⟨rfl, rfl, rfl, by decide +kernel, rfl, by decide +kernel, by decide +kernel⟩
inductive F_lgoal : List Dt → Res → Prop where
  | mk (c many : Int) (sl : List Nat) (hm : 0 < many) (hl : sl.length = 3) : F_lgoal [.int c, .int many, .lst (sl.map fun g => .str [g])] (.val (spD (c % many, goalP c sl)))
theorem ok_lgoal {f : Addr} {fd : FuncData} (F : Fun K "_law_goal" "_law_goal" s_lgoal f fd) (Tx : Txt mg) (G_mixed : Callee P w K mg base T "_law_mixed" 1 ["_law_cell", "_law_k"] F_mixed) : FnD P w K mg base T 2 f fd ["_law_cell", "_law_many", "_law_signs_here"] F_lgoal := by
  refine fn_ok F sc_lgoal fun cdv A outer s H E ds r hr hl hF => ?_
  have nd := sc_lgoal.nd
  cases hF with
  | mk c many sl hm hl3 =>
    obtain ⟨ga, gb, gc, rfl⟩ := len3 hl3
    refine psd_cons (psd_set 3 nd (d := .lst ((some5 [ga, gb, gc]).map fun g => .str [g])) (pr_lst (pad_cons (pd_ix (pd_v 2 rfl) pd_int rfl) (pad_cons (pd_ix (pd_v 2 rfl) pd_int rfl) (pad_cons (pd_ix (pd_v 2 rfl) pd_int rfl) (pad_cons (pd_ix (pd_v 2 rfl) pd_int rfl) (pad_cons (pd_ix (pd_v 2 rfl) pd_int rfl) pad_nil)))))).dat ?_)
    have b5 := mod_bounds (c / 5) (m := 5) (by decide)
    have hzs : ((List.range (c / 5 % 5).toNat).map fun (k : Nat) => [(some5 [ga, gb, gc]).getD (mixed c k % 5).toNat 0]).flatten = goalP c [ga, gb, gc] := by
      unfold goalP
      generalize List.range (c / 5 % 5).toNat = rg
      induction rg with
      | nil => rfl
      | cons a r ih => rw [List.map_cons, List.flatten_cons, List.map_cons, ih]; rfl
    refine psd_one (psd_ret (d := .tup [.int (c % many), .str (goalP c [ga, gb, gc])]) (pd_tup (pad_cons (pd_modI (pd_v 0 rfl) (pd_v 1 rfl) hm) (pad_cons ?pile pad_nil))) rfl)
    rw [← hzs]
    refine pd_join rfl (zs := (List.range (c / 5 % 5).toNat).map fun (k : Nat) => [(some5 [ga, gb, gc]).getD (mixed c k % 5).toNat 0]) (PR.dat (o := .lst _) (pr_lc rfl nd (blkOk_by (N := ["_law_cell", "_law_many", "_law_signs_here", "_law_some", "_law_k"]) (sc := defScope s_lgoal) (own := [("_law_k", 4)]) (by decide +kernel)) (pid_range1 Tx.b_range (pd_modI (pd_divI (pd_v 0 rfl) pd_int ⟨by decide, by decide⟩) pd_int (by decide)) (by omega) (by omega)) ?hl ?hz ?turn)) ?hj
    case hl => rw [rangeN_len]; simp
    case hz => rw [rangeN_len]; exact Nat.lt_of_le_of_lt (m := 100) (by omega) (by decide)
    case hj => rw [hzs]; exact Nat.le_trans (goalP_len c _) (by decide)
    case turn =>
      intro i d o h1 h2
      rw [List.map_map] at h2
      obtain ⟨hi, rfl, rfl⟩ := rangeN_get2 h1 h2
      refine ⟨[4], _, by simp, fun s0 H0 C cl fp => gd_name 4 nd, fun s0 H0 C cl fp => ?_⟩
      have b3 := mod_bounds (mixed c i) (m := 5) (by decide)
      have hlt : (mixed c i % 5).toNat < (some5 [ga, gb, gc]).length := by show _ < 5; omega
      exact pd_ix (pd_v 3 rfl) (pd_modI (pr_calln G_mixed hr (pad_cons (pd_v 0 rfl) (pad_cons (pd_v 4 rfl) pad_nil)) (F_mixed.mk _ i (by omega))) pd_int (by decide)) (dix_map (x := (some5 [ga, gb, gc]).getD (mixed c i % 5).toNat 0) b3.1 (by rw [List.getElem?_eq_getElem hlt, List.getD_eq_getElem?_getD, List.getElem?_eq_getElem hlt]; rfl))
/-! ### a spot -/
theorem sc_lspot : FnScope ["_law_cell", "_law_many", "_law_signs_here", "_law_goal_here", "_law_size", "_law_some", "_law_pile", "_law_k"] ["_law_cell", "_law_many", "_law_signs_here", "_law_goal_here"] (defScope s_lspot) := ⟨rfl, rfl, rfl, by decide +kernel, rfl, by decide +kernel, by decide +kernel⟩
inductive F_lspot : List Dt → Res → Prop where
  | mk (c many ga : Int) (sl gl : List Nat) (hm : 0 < many) (hl : sl.length = 3) (hg : gl.length ≤ 1000) : F_lspot [.int c, .int many, .lst (sl.map fun g => .str [g]), spD (ga, gl)] (.val (spD (c % many, spotP c sl gl)))
theorem ok_lspot {f : Addr} {fd : FuncData} (F : Fun K "_law_spot" "_law_spot" s_lspot f fd) (Tx : Txt mg) (G_mixed : Callee P w K mg base T "_law_mixed" 1 ["_law_cell", "_law_k"] F_mixed) : FnD P w K mg base T 2 f fd ["_law_cell", "_law_many", "_law_signs_here", "_law_goal_here"] F_lspot := by
  refine fn_ok F sc_lspot fun cdv A outer s H E ds r hr hl hF => ?_
  have nd := sc_lspot.nd
  cases hF with
  | mk c many ga sl gl hm hl3 hg =>
    obtain ⟨g1, g2, g3, rfl⟩ := len3 hl3
    have b8 := mod_bounds (c / 5) (m := 8) (by decide)
    refine psd_cons (psd_set 4 nd (d := .int (c / 5 % 8)) (pd_modI (pd_divI (pd_v 0 rfl) pd_int ⟨by decide, by decide⟩) pd_int (by decide)) ?_)
    refine psd_cons (psd_set 5 nd (d := .lst ((some5 [g1, g2, g3]).map fun g => .str [g])) (pr_lst (pad_cons (pd_ix (pd_v 2 rfl) pd_int rfl) (pad_cons (pd_ix (pd_v 2 rfl) pd_int rfl) (pad_cons (pd_ix (pd_v 2 rfl) pd_int rfl) (pad_cons (pd_ix (pd_v 2 rfl) pd_int rfl) (pad_cons (pd_ix (pd_v 2 rfl) pd_int rfl) pad_nil)))))).dat ?_)
    have hzs : ((List.range (c / 5 % 8).toNat).map fun (k : Nat) => [(some5 [g1, g2, g3]).getD (mixed (c / 40) k / 7 % 5).toNat 0]).flatten = spotP0 c [g1, g2, g3] := by
      unfold spotP0
      generalize List.range (c / 5 % 8).toNat = rg
      induction rg with
      | nil => rfl
      | cons a r ih => rw [List.map_cons, List.flatten_cons, List.map_cons, ih]; rfl
    have hpl := spotP0_len c [g1, g2, g3]
    refine psd_cons (psd_set 6 nd (d := .str (spotP0 c [g1, g2, g3])) ?pile ?_)
    case pile =>
      rw [← hzs]
      refine pd_join rfl (zs := (List.range (c / 5 % 8).toNat).map fun (k : Nat) => [(some5 [g1, g2, g3]).getD (mixed (c / 40) k / 7 % 5).toNat 0]) (PR.dat (o := .lst _) (pr_lc rfl nd (blkOk_by (N := ["_law_cell", "_law_many", "_law_signs_here", "_law_goal_here", "_law_size", "_law_some", "_law_pile", "_law_k"]) (sc := defScope s_lspot) (own := [("_law_k", 7)]) (by decide +kernel)) (pid_range1 Tx.b_range (pd_v 4 rfl) (by omega) (by omega)) ?hl ?hz ?turn)) ?hj
      case hl => rw [rangeN_len]; simp
      case hz => rw [rangeN_len]; exact Nat.lt_of_le_of_lt (m := 100) (by omega) (by decide)
      case hj => rw [hzs]; exact Nat.le_trans hpl (by decide)
      case turn =>
        intro i d o h1 h2
        rw [List.map_map] at h2
        obtain ⟨hi, rfl, rfl⟩ := rangeN_get2 h1 h2
        refine ⟨[7], _, by simp, fun s0 H0 C cl fp => gd_name 7 nd, fun s0 H0 C cl fp => ?_⟩
        have b3 := mod_bounds (mixed (c / 40) i / 7) (m := 5) (by decide)
        have hlt : (mixed (c / 40) i / 7 % 5).toNat < (some5 [g1, g2, g3]).length := by show _ < 5; omega
        exact pd_ix (pd_v 5 rfl) (pd_modI (pd_divI (pr_calln G_mixed hr (pad_cons (pd_divI (pd_v 0 rfl) pd_int ⟨by decide, by decide⟩) (pad_cons (pd_v 7 rfl) pad_nil)) (F_mixed.mk _ i (by omega))) pd_int ⟨by decide, by decide⟩) pd_int (by decide)) (dix_map (x := (some5 [g1, g2, g3]).getD (mixed (c / 40) i / 7 % 5).toNat 0) b3.1 (by rw [List.getElem?_eq_getElem hlt, List.getD_eq_getElem?_getD, List.getElem?_eq_getElem hlt]; rfl))
    have hz : (spotP0 c [g1, g2, g3]).length ≤ sizeLine := Nat.le_trans hpl (by decide)
    refine psd_cut (fun Δ' => Δ' = [some (.imm (.int c)), some (.imm (.int many)), some (.imm (.lst (([g1, g2, g3] : List Nat).map fun g => .str [g]))), some (.imm (spD (ga, gl))), some (.imm (.int (c / 5 % 8))), some (.imm (.lst ((some5 [g1, g2, g3]).map fun g => .str [g]))), some (.imm (.str (spotP c [g1, g2, g3] gl))), none]) (psd_if (k := decide (c / 40 % 3 = 1)) (ptd_cmp op_eq (nomark _) (pd_modI (pd_divI (pd_v 0 rfl) pd_int ⟨by decide, by decide⟩) pd_int (by decide)) pd_int opd_eqI) (fun hc => ?_) (fun hc => ?_)) ?_
    · have e : spotP c [g1, g2, g3] gl = cutD (spotP0 c [g1, g2, g3]) none (some 4) ++ gl := by unfold spotP; rw [if_pos (of_decide_eq_true hc)]
      rw [e]
      refine psd_one (psd_set 6 nd (d := .str (cutD (spotP0 c [g1, g2, g3]) none (some 4) ++ gl)) (pd_addS (pd_sliceS (pd_v 6 rfl) pod_none (pod_some pd_int) hz) (pd_ix (d1 := spD (ga, gl)) (pd_v 3 rfl) pd_int rfl) ?_) rfl)
      have := len_cutD (spotP0 c [g1, g2, g3]) none (some 4)
      exact sz_le (by omega)
    · have e : spotP c [g1, g2, g3] gl = spotP0 c [g1, g2, g3] := by unfold spotP; rw [if_neg (of_decide_eq_false hc)]
      rw [e]
      exact psd_nil rfl
    · rintro Δ' rfl
      exact psd_one (psd_ret (pd_tup (pad_cons (pd_modI (pd_v 0 rfl) (pd_v 1 rfl) hm) (pad_cons (pd_v 6 rfl) pad_nil))) rfl)
/-! ### arrows() -/
theorem pd_dk {X : Cx} {T : List Addr} {Δ : DEnv} {e : Expr} {k k' : Dt} (h : PD X T Δ e k) (q : k = k') : PD X T Δ e k' := q ▸ h
theorem sc_marrows : FnScope ["self"] ["self"] (defScope s_marrows) := ⟨rfl, rfl, rfl, by decide +kernel, rfl, by decide +kernel, by decide +kernel⟩
inductive F_marrows (C : Addr) : List Dt → Res → Prop where
  | mk (n e R : Int) (rules : List Rl) (own : List Arw) (W : List (Arw × Int)) (Z : Rsn) : F_marrows C [rdrD C (fs7 n rules own R e W Z)] (.own (.lst ((sortA (W.map (·.1))).map adt)))
theorem ok_marrows {f C : Addr} {fd : FuncData} (F : Fun K "arrows" "Reader.arrows" s_marrows f fd) (Tx : Txt mg) (RC : Rdr K C) : FnD P w K mg base T 1 f fd ["self"] (F_marrows C) := by
  refine fn_ok F sc_marrows fun cdv A outer s H E ds r hr hl hF => ?_
  cases hF with
  | mk n e_ R rules own W Z =>
    have e : (W.map fun p => p.1).map akey = (wkd W).map (·.1) := by
      rw [List.map_map]
      exact (tab_keys W).symm
    have hw : wD W = .dt ((W.map fun p => p.1).map akey) ((wkd W).map (·.2)) := by
      rw [e]
      rfl
    exact psd_one (psd_retO (pr_sortedT (ks := W.map (fun p : Arw × Int => p.1)) (ds := (wkd W).map (·.2)) rfl Tx.b_sorted (pd_dk (k := wD W) (pd_fld RC.cl RC.weights (pd_v 0 rfl) rfl) hw)) rfl)
theorem pd_bk {X : Cx} {T : List Addr} {Δ : DEnv} {e : Expr} {k k' : Bool} (h : PD X T Δ e (.bl k)) (q : k = k') : PD X T Δ e (.bl k') := q ▸ h
/-! ### spots compared -/
theorem deq_spD (p q : Int × List Nat) : deq 1 (spD p) (spD q) = decide (p = q) := by
  obtain ⟨a, l⟩ := p
  obtain ⟨b, m⟩ := q
  show deq 1 (.tup [.int a, .str l]) (.tup [.int b, .str m]) = _
  rw [deq_tup]
  show (decide (2 = 2) && (deq 0 (.int a) (.int b) && (deq 0 (.str l) (.str m) && true))) = _
  have e1 : deq 0 (.int a) (.int b) = decide (a = b) := by show (a == b) = _; exact Bool.beq_eq_decide_eq a b
  have e2 : deq 0 (.str l) (.str m) = decide (l = m) := by
    show ((⟨l.toArray⟩ : Str) == ⟨m.toArray⟩) = _
    rw [Bool.eq_iff_iff, beq_iff_eq, decide_eq_true_eq]
    constructor
    · intro h
      injection h with h
      simpa using congrArg Array.toList h
    · intro h; rw [h]
  rw [e1, e2, Bool.and_true, decide_eq_true (rfl : 2 = 2), Bool.true_and, ← Bool.decide_and]
  exact decide_eq_decide.mpr ⟨fun h => by rw [h.1, h.2], fun h => by injection h with h1 h2; exact ⟨h1, h2⟩⟩
theorem gd_spD {q : Int × List Nat} (h : OkS q.2) : gd 1 (spD q) = true := gd_tup' fun d hd => by
  simp only [List.mem_cons, List.not_mem_nil, or_false] at hd
  rcases hd with z | z <;> rw [z]
  · exact gd_int
  · exact gd_str h
theorem gd_spots {l : List (Int × List Nat)} (h : ∀ q ∈ l, OkS q.2) : gd 2 (.lst (l.map spD)) = true := gd_lst fun d hd => by
  obtain ⟨q, hq, rfl⟩ := List.mem_map.mp hd
  exact gd_spD (h q hq)
/-! ### the arrows and their weights -/
theorem deq_adt (p q : Arw) : deq 1 (adt p) (adt q) = decide (p = q) := by
  obtain ⟨a, g, b⟩ := p
  obtain ⟨c, h, d⟩ := q
  show deq 1 (.tup [.int a, .str [g], .int b]) (.tup [.int c, .str [h], .int d]) = _
  rw [deq_tup]
  show (decide (3 = 3) && (deq 0 (.int a) (.int c) && (deq 0 (.str [g]) (.str [h]) && (deq 0 (.int b) (.int d) && true)))) = _
  have e1 : ∀ i j : Int, deq 0 (.int i) (.int j) = decide (i = j) := fun i j => by show (i == j) = _; exact Bool.beq_eq_decide_eq i j
  have e2 : deq 0 (.str [g]) (.str [h]) = decide (g = h) := SrtO.sign_eq g h
  rw [e1, e1, e2, Bool.and_true, decide_eq_true (rfl : 3 = 3), Bool.true_and, ← Bool.decide_and, ← Bool.decide_and]
  exact decide_eq_decide.mpr ⟨fun h => by rw [h.1, h.2.1, h.2.2], fun h => by injection h with h1 h2; injection h2 with h2 h3; exact ⟨h1, h2, h3⟩⟩
theorem any_adt {a : Arw} : ∀ l : List Arw, ((l.map adt).any fun z => deq 1 z (adt a)) = decide (a ∈ l)
  | [] => rfl
  | b :: r => by
    rw [List.map_cons, List.any_cons, any_adt r, deq_adt, Bool.eq_iff_iff, Bool.or_eq_true, decide_eq_true_eq, decide_eq_true_eq, decide_eq_true_eq, List.mem_cons]
    exact ⟨fun h => h.elim (fun e => .inl e.symm) .inr, fun h => h.elim (fun e => .inl e.symm) .inr⟩
theorem gd_adt {a : Arw} (h : a.2.1 < 1000) : gd 1 (adt a) = true := gd_tup' fun d hd => by
  simp only [List.mem_cons, List.not_mem_nil, or_false] at hd
  rcases hd with z | z | z <;> rw [z]
  · exact gd_int
  · exact gd_str fun c hc => by rw [List.mem_singleton.mp hc]; exact h
  · exact gd_int
theorem gd_adts {l : List Arw} (h : ∀ a ∈ l, a.2.1 < 1000) : gd 2 (.lst (l.map adt)) = true := gd_lst fun d hd => by
  obtain ⟨q, hq, rfl⟩ := List.mem_map.mp hd
  exact gd_adt (h q hq)
theorem pl2_adt {a : Arw} (h : Sgs [a.2.1]) : pl2 (adt a) = true := pl2_of_tup fun d hd => by
  simp only [List.mem_cons, List.not_mem_nil, or_false] at hd
  rcases hd with z | z | z <;> rw [z]
  · rfl
  · exact pl1_sgs h.ok (by show 1 ≤ 1000; decide)
  · rfl
theorem room_65 {k : Nat} {A : Around} (r : Room k A) : A.units + 65 < cLine := by
  have := r.un
  omega
theorem op_notInD' {X : Cx} (hu : X.A.units + 65 < cLine) : OpR X (compareOp .NotIn) (rNotInD X.K) := op_notInD hu
theorem opd_notInD {X : Cx} {T : List Addr} {n : Nat} {d1 : Dt} {l : List Dt} (hn : n + 1 ≤ 64) (g1 : gd n d1 = true) (g2 : gd (n + 1) (.lst l) = true) : OpD X T (rNotInD X.K) d1 (.lst l) (.val (.bl (!l.any fun z => deq n z d1))) := fun fm L O σ H Δ Q W x y tk s r1 r2 q =>
  ⟨toPy n d1, l.map (toPy n), r1.dp (mask_le H O) n g1, r2.dp (mask_le H O) (n + 1) g2, gd_shaped (by omega) g1, gd_shaped hn g2, by
    rw [List.any_map]
    exact q _ H Gr.refl s (.bl _)⟩
/-- the weights as the law takes them down -/
def takenW (W : List (Arw × Int)) (l : List Arw) : List (Arw × Int) := l.foldl (fun acc a => putG acc a ((lkG W a).getD 0)) []
theorem takenW_get {W : List (Arw × Int)} {b : Arw} : ∀ (l : List Arw) (acc : List (Arw × Int)), lkG (l.foldl (fun acc a => putG acc a ((lkG W a).getD 0)) acc) b = if b ∈ l then some ((lkG W b).getD 0) else lkG acc b
  | [], acc => by rw [if_neg List.not_mem_nil]; rfl
  | a :: r, acc => by
    show lkG (r.foldl _ (putG acc a ((lkG W a).getD 0))) b = _
    rw [takenW_get r]
    by_cases h : b ∈ r
    · rw [if_pos h, if_pos (List.mem_cons_of_mem _ h)]
    · rw [if_neg h, lkG_put]
      by_cases e : b = a
      · rw [if_pos e, if_pos (by rw [e]; exact List.mem_cons_self), e]
      · rw [if_neg e, if_neg fun z => (List.mem_cons.mp z).elim e h]
theorem takenW_len {W : List (Arw × Int)} : ∀ (l : List Arw) (acc : List (Arw × Int)), (l.foldl (fun acc a => putG acc a ((lkG W a).getD 0)) acc).length ≤ acc.length + l.length
  | [], acc => Nat.le_refl _
  | a :: r, acc => by
    have := takenW_len (W := W) r (putG acc a ((lkG W a).getD 0))
    have := putG_len acc a ((lkG W a).getD 0)
    rw [List.foldl_cons, List.length_cons]
    omega
theorem takenW_take {W : List (Arw × Int)} {l : List Arw} {i : Nat} {a : Arw} (h : l[i]? = some a) : takenW W (l.take (i + 1)) = putG (takenW W (l.take i)) a ((lkG W a).getD 0) := by
  obtain ⟨hi, e⟩ := List.getElem?_eq_some_iff.mp h
  unfold takenW
  rw [List.take_succ_eq_append_getElem hi, List.foldl_append, e]
  rfl
/-! ### a reader's tables exist -/
theorem mach_exists (C : Addr) {n a : Int} {rs : List Rl} {pl : List Nat} (hm : 0 < n) (hm5 : n ≤ 5) (hR : ∀ r ∈ rs, GoodR n r) (hl : rs.length ≤ 12) (ha0 : 0 ≤ a) (ha1 : a < n) (hp : Sgs pl) (hpl : pl.length ≤ 4) :
    ∃ (R : Nat) (W : List (Arw × Int)) (Z : Rsn), R ≤ 1000 ∧ F_find C (.ins C (fs5 n rs (ownAs n a pl pl.length) (n + (pl.length : Int)) (endOf n a pl))) [] (.ok .non (.ins C (fs7 n rs (ownAs n a pl pl.length) (R : Int) (endOf n a pl) W Z))) ∧ Mach n a pl rs R (endOf n a pl) W ∧ Good (allA R rs (ownAs n a pl pl.length)) W := by
  obtain ⟨R, eR⟩ : ∃ R : Nat, (R : Int) = n + (pl.length : Int) := ⟨(n + (pl.length : Int)).toNat, by omega⟩
  have ht : ∀ r ∈ rs, 0 ≤ r.t ∧ r.t < (R : Int) := fun r hr => by have := (hR r hr).t0; have := (hR r hr).t1; omega
  have hp2 : ∀ r ∈ rs, r.p.length ≤ 1000 := fun r hr => by have := (hR r hr).l; omega
  obtain ⟨m, h1, h2, h3, h4, h5, h6⟩ := weights_rest (own := ownAs n a pl pl.length) ht
  have ho : (ownAs n a pl pl.length).length ≤ 1000 := by rw [ownAs_len]; omega
  have hb : rs.length * R ≤ 12 * 1000 := Nat.mul_le_mul hl (by omega)
  obtain ⟨Z, key⟩ : ∃ Z, F_find C (.ins C (fs5 n rs (ownAs n a pl pl.length) (R : Int) (endOf n a pl))) [] (.ok .non (.ins C (fs7 n rs (ownAs n a pl pl.length) (R : Int) (endOf n a pl) (itW R rs (ownW (ownAs n a pl pl.length)) (m + 1)) Z))) :=
    ⟨_, .mk n (endOf n a pl) rs (ownAs n a pl pl.length) R _ _ (F_weights.mk rs (ownAs n a pl pl.length) R m (by omega) ho ht (fun i hi => by have := h1 i hi; omega) h2 h3) (F_reasons.mk rs (ownAs n a pl pl.length) _ R (by omega) ho (by omega) ht hp2 (fun r hr room hm => by obtain ⟨x, hx, _⟩ := h5 r hr room hm; exact ⟨x, hx⟩) fun r hr room hm => way_of_read (ht r hr) hm)⟩
  have e5 : fs5 n rs (ownAs n a pl pl.length) (n + (pl.length : Int)) (endOf n a pl) = fs5 n rs (ownAs n a pl pl.length) (R : Int) (endOf n a pl) := by rw [eR]
  refine ⟨R, itW R rs (ownW (ownAs n a pl pl.length)) (m + 1), Z, by omega, ?_, ⟨hm, hR, ha0, ha1, eR, rfl, h5, snd_it R rs _ (m + 1)⟩, h6⟩
  rw [e5]
  exact key
/-- what least tells -/
def leD (W : List (Arw × Int)) (R : Nat) (e : Int) (q : Int × List Nat) : Dt := ((lkG (readFrom W R q.1 q.2) e).map Dt.int).getD .non
theorem leD_some {W : List (Arw × Int)} {R : Nat} {e : Int} {q : Int × List Nat} {v : Int} (h : lkG (readFrom W R q.1 q.2) e = some v) : leD W R e q = .int v := by unfold leD; rw [h]; rfl
theorem leD_none {W : List (Arw × Int)} {R : Nat} {e : Int} {q : Int × List Nat} (h : lkG (readFrom W R q.1 q.2) e = none) : leD W R e q = .non := by unfold leD; rw [h]; rfl
theorem pd_least {X : Cx} {T : List Addr} {Δ : DEnv} {e : Expr} {C BS : Addr} {o : Expr} {pos apos : Pos} {n ee : Int} {R : Nat} {rs : List Rl} {own : List Arw} {W : List (Arw × Int)} {Z : Rsn} {q : Int × List Nat} (G : CalleeM X.prog X.w X.K X.mg X.base T C "least" 6 ["self", "spot"] (F_mleast C BS)) (hr : Room 6 X.A) (ho : PD X T Δ o (rdrD C (fs7 n rs own R ee W Z))) (he : PD X T Δ e (spD q)) (hR : R ≤ 1000) (h0 : 0 ≤ q.1) (h1 : q.1 < n) (h2 : Sgs q.2) (h3 : q.2.length ≤ 1000)
    {pl : Sem Bool} (hst : starEach [e] X.env = (false, eval e X.env) :: starEach [] X.env := by rfl) (hpl : (backTo pos (starEach [] X.env)).any (·.1) = false := by rfl)
    (ht : eval (.Call (.Attribute o "least" apos) [e] [] pos) X.env = (do
      let ov ← eval o X.env
      standAt apos.atName
      let (f, first) ← holding [ov] (getMethod ov "least" pl)
      callWith pos f first (backTo pos (starEach [e] X.env)) (backToKw pos (keywordEach [] X.env))) := by rfl) : PD X T Δ (.Call (.Attribute o "least" apos) [e] [] pos) (leD W R ee q) :=
  pr_meth (pl := pl) G hr ho (by show ("least" : Str) ∉ (["_many", "_rules", "_own", "_rooms", "_end", "_weights", "_reasons"] : List Str); decide) (pad_cons he pad_nil hst) (F_mleast.ok n ee R rs own W Z q.1 q.2 hR (spot_pl2 h2.ok h3) (spot_good h0 h1 h2)) rfl hst hpl ht
/-! ### the weights of a reader, as a dict -/
def wOf (W : List (Arw × Int)) : List (Arw × Int) := takenW W (sortA (W.map (·.1)))
theorem lk_in {W : List (Arw × Int)} {a : Arw} : a ∈ W.map (·.1) ↔ (lkG W a).isSome = true := by
  rw [← lkG_any, List.any_eq_true, List.mem_map]
  exact ⟨fun ⟨p, h, e⟩ => ⟨p, h, decide_eq_true e⟩, fun ⟨p, h, e⟩ => ⟨p, h, of_decide_eq_true e⟩⟩
theorem wOf_get (W : List (Arw × Int)) (a : Arw) : lkG (wOf W) a = lkG W a := by
  unfold wOf takenW
  rw [takenW_get]
  by_cases h : a ∈ sortA (W.map (·.1))
  · rw [if_pos h]
    obtain ⟨x, hx⟩ := Option.isSome_iff_exists.mp (lk_in.mp (mem_sortA.mp h))
    rw [hx]
    rfl
  · rw [if_neg h]
    cases q : lkG W a with
    | none => rfl
    | some x => exact absurd (mem_sortA.mpr (lk_in.mpr (by rw [q]; rfl))) h
theorem wOf_len (W : List (Arw × Int)) : (wOf W).length ≤ W.length := by
  have := takenW_len (W := W) (sortA (W.map (·.1))) []
  rw [List.length_nil, sortA_len, List.length_map] at this
  unfold wOf takenW
  omega
theorem nm_arrows : ("arrows" : Str) ∉ (["_many", "_rules", "_own", "_rooms", "_end", "_weights", "_reasons"] : List Str) := by decide
theorem nm_weight : ("weight" : Str) ∉ (["_many", "_rules", "_own", "_rooms", "_end", "_weights", "_reasons"] : List Str) := by decide
theorem sc_lweights : FnScope ["_law_reader", "_law_found", "_law_arrow"] ["_law_reader"] (defScope s_lweights) := ⟨rfl, rfl, rfl, by decide +kernel, rfl, by decide +kernel, by decide +kernel⟩
inductive F_lweights (C : Addr) : List Dt → Res → Prop where
  | mk (n e R : Int) (rs : List Rl) (own : List Arw) (W : List (Arw × Int)) (Z : Rsn) (hg : ∀ a ∈ W.map (·.1), Sgs [a.2.1]) (hl : W.length ≤ 1000) : F_lweights C [rdrD C (fs7 n rs own R e W Z)] (.own (.dt (wkd (wOf W))))
theorem ok_lweights {f C NA : Addr} {fd : FuncData} (F : Fun K "_law_weights" "_law_weights" s_lweights f fd) (G_arrows : CalleeM P w K mg base T C "arrows" 1 ["self"] (F_marrows C)) (G_weight : CalleeM P w K mg base T C "weight" 4 ["self", "arrow"] (F_mweight C NA)) : FnD P w K mg base T 5 f fd ["_law_reader"] (F_lweights C) := by
  refine fn_ok F sc_lweights fun cdv A outer s H E ds r hr hln hF => ?_
  have nd := sc_lweights.nd
  have hu64 := hr.units
  have hr1 : Room 1 _ := hr.mono (by decide : 1 ≤ 4)
  cases hF with
  | mk n e R rs own W Z hg hl =>
    obtain ⟨ar, har⟩ : ∃ ar, ar = sortA (W.map (·.1)) := ⟨_, rfl⟩
    have hcallA := F_marrows.mk (C := C) n e R rs own W Z
    rw [← har] at hcallA
    have hal : ar.length ≤ 1000 := by rw [har, sortA_len, List.length_map]; exact hl
    have hm : ∀ a ∈ ar, a ∈ W.map (·.1) := fun a ha => by rw [har] at ha; exact mem_sortA.mp ha
    have hWl : ∀ i, (wkd (takenW W (ar.take i))).length < sizeLine := fun i => by
      have := takenW_len (W := W) (ar.take i) []
      rw [List.length_take] at this
      show (tabD akey Dt.int (takenW W (ar.take i))).length < _
      rw [tab_len]
      exact Nat.lt_of_le_of_lt (m := 1000) (by unfold takenW; rw [List.length_nil] at this; omega) (by decide)
    refine psd_cons (psd_setO 1 nd pr_dT fun l_1 => ?_)
    refine psd_cons (psd_for (passes_of rfl) rfl (pid_list (PR.dat (pr_meth0 G_arrows hr1 (pd_v 0 rfl) nm_arrows hcallA))) (fun j Δ' => ∃ e2, Δ' = [some (.imm (rdrD C (fs7 n rs own R e W Z))), some (.own l_1 false (.dt (wkd (takenW W (ar.take j))))), e2]) ⟨none, rfl⟩ (fun j d Δ' hd iv => ?_) (fun Δ' iv => ?_))
    · obtain ⟨e2, rfl⟩ := iv
      obtain ⟨a, hj, rfl⟩ := map_get hd
      have ham := hm a (List.mem_of_getElem? hj)
      obtain ⟨x, hx⟩ := Option.isSome_iff_exists.mp (lk_in.mp ham)
      have hput : putD (wkd (takenW W (ar.take j))) (akey a) (.int x) = wkd (takenW W (ar.take (j + 1))) := by
        rw [takenW_take hj, hx]
        exact putD_tab (fun _ _ => akey_inj) a x _
      refine ⟨_, _, (gd_name 2 nd), ?_⟩
      refine psd_one (psd_putT 1 (k := akey a) hu64 rfl (d1 := adt a) (pd_v 2 rfl) (d2 := .int x) (pr_meth G_weight hr (pd_v 0 rfl) nm_weight (pad_cons (pd_v 2 rfl) pad_nil) (F_mweight.ok n e R rs own W Z a x (pl2_adt (hg a ham)) hx)) rfl (hWl j) ?_)
      rw [hput]
      exact ⟨_, rfl⟩
    · obtain ⟨e2, rfl⟩ := iv
      refine psd_one (psd_retV 1 rfl ?_)
      show Ow.dt _ = Ow.dt _
      rw [List.length_map, List.take_length]
      unfold wOf
      rw [har]
/-! ### two readers alike; fewer rules -/
theorem sc_lalike : FnScope ["_law_one", "_law_other", "_law_spots", "_law_spot_here"] ["_law_one", "_law_other", "_law_spots"] (defScope s_lalike) := ⟨rfl, rfl, rfl, by decide +kernel, rfl, by decide +kernel, by decide +kernel⟩
structure RdOk (n : Int) (R : Nat) (W : List (Arw × Int)) : Prop where
  g : ∀ a ∈ W.map (·.1), Sgs [a.2.1]
  l : W.length ≤ 1000
  r : R ≤ 1000
inductive F_lalike (C : Addr) : List Dt → Res → Prop where
  | mk (n e e' : Int) (R R' : Nat) (rs rs' : List Rl) (own own' : List Arw) (W W' : List (Arw × Int)) (Z Z' : Rsn) (qs : List (Int × List Nat)) (h : RdOk n R W) (h' : RdOk n R' W') (hW : wOf W = wOf W') (hq : ∀ q ∈ qs, 0 ≤ q.1 ∧ q.1 < n ∧ Sgs q.2 ∧ q.2.length ≤ 1000) (hl : qs.length ≤ 100) (hle : ∀ q ∈ qs, leD W R e q = leD W' R' e' q) :
      F_lalike C [rdrD C (fs7 n rs own (R : Int) e W Z), rdrD C (fs7 n rs' own' (R' : Int) e' W' Z'), .lst (qs.map spD)] (.val (.bl true))
theorem gd_leD {W : List (Arw × Int)} {R : Nat} {e : Int} {q : Int × List Nat} : gd 1 (leD W R e q) = true := by
  unfold leD
  cases lkG (readFrom W R q.1 q.2) e <;> rfl
theorem ok_lalike {f C BS : Addr} {fd : FuncData} (F : Fun K "_law_alike" "_law_alike" s_lalike f fd) (G_weights : Callee P w K mg base T "_law_weights" 5 ["_law_reader"] (F_lweights C)) (G_least : CalleeM P w K mg base T C "least" 6 ["self", "spot"] (F_mleast C BS)) : FnD P w K mg base T 7 f fd ["_law_one", "_law_other", "_law_spots"] (F_lalike C) := by
  refine fn_ok F sc_lalike fun cdv A outer s H E ds r hr hln hF => ?_
  have nd := sc_lalike.nd
  have hu64 := hr.units
  have hr5 : Room 5 _ := hr.mono (by decide : 5 ≤ 6)
  cases hF with
  | mk n e e' R R' rs rs' own own' W W' Z Z' qs h h' hW hq hl hle =>
    refine psd_cons (psd_if (k := false) (ptd_cmp (op_neDT hu64) (nomark _) (PR.dat (o := .dt (wkd (wOf W))) (pr_calln G_weights hr5 (pad_cons (pd_v 0 rfl) pad_nil) (.mk n e (R : Int) rs own W Z h.g h.l))) (PR.dat (o := .dt (wkd (wOf W'))) (pr_calln G_weights hr5 (pad_cons (pd_v 1 rfl) pad_nil) (.mk n e' (R' : Int) rs' own' W' Z' h'.g h'.l))) (opd_neW (A := wOf W) (B := wOf W') (by rw [hW]) (fun p hp => by rw [← hW]; exact hp))) (fun z => nomatch z) (fun _ => psd_nil ?_))
    have hmap : qs.map (leD W R e) = qs.map (leD W' R' e') := List.map_congr_left hle
    have gg : gd 2 (.lst (qs.map (leD W R e))) = true := gd_lst fun d hd => by
      obtain ⟨q, _, rfl⟩ := List.mem_map.mp hd
      exact gd_leD
    refine psd_one (psd_ret (pd_bk (pd_cmp (op_eqD hu64) (nomark _) (PR.dat (o := .lst (qs.map (leD W R e))) (pr_lc rfl nd (blkOk_by (N := ["_law_one", "_law_other", "_law_spots", "_law_spot_here"]) (sc := defScope s_lalike) (own := [("_law_spot_here", 3)]) (by decide +kernel)) (pid_list (pd_v 2 rfl)) (by rw [List.length_map, List.length_map]) (by rw [List.length_map]; exact Nat.lt_of_le_of_lt hl (by decide)) ?t1)) (PR.dat (o := .lst (qs.map (leD W' R' e'))) (pr_lc rfl nd (blkOk_by (N := ["_law_one", "_law_other", "_law_spots", "_law_spot_here"]) (sc := defScope s_lalike) (own := [("_law_spot_here", 3)]) (by decide +kernel)) (pid_list (pd_v 2 rfl)) (by rw [List.length_map, List.length_map]) (by rw [List.length_map]; exact Nat.lt_of_le_of_lt hl (by decide)) ?t2)) (opd_eqD (n := 2) (by decide) gg (by rw [show (Ow.lst (qs.map (leD W' R' e'))).d = Dt.lst (qs.map (leD W' R' e')) from rfl, ← hmap]; exact gg))) (by rw [show (Ow.lst (qs.map (leD W' R' e'))).d = Dt.lst (qs.map (leD W' R' e')) from rfl, ← hmap]; exact deq_refl _ gg)) rfl)
    case t1 =>
      intro i d o h1 h2
      obtain ⟨q, hi, rfl, rfl⟩ := map_get2 h1 h2
      obtain ⟨g0, g1, g2, g3⟩ := hq q (List.mem_of_getElem? hi)
      exact ⟨[3], _, by simp, fun s0 H0 C cl fp => gd_name 3 nd, fun s0 H0 C cl fp => pd_least G_least hr (pd_v 0 rfl) (pd_v 3 rfl) h.r g0 g1 g2 g3⟩
    case t2 =>
      intro i d o h1 h2
      obtain ⟨q, hi, rfl, rfl⟩ := map_get2 h1 h2
      obtain ⟨g0, g1, g2, g3⟩ := hq q (List.mem_of_getElem? hi)
      exact ⟨[3], _, by simp, fun s0 H0 C cl fp => gd_name 3 nd, fun s0 H0 C cl fp => pd_least G_least hr (pd_v 1 rfl) (pd_v 3 rfl) h'.r g0 g1 g2 g3⟩
/-! ### a text in other signs -/
theorem sc_lsigned : FnScope ["_law_text", "_law_names", "_law_sign"] ["_law_text", "_law_names"] (defScope s_lsigned) := ⟨rfl, rfl, rfl, by decide +kernel, rfl, by decide +kernel, by decide +kernel⟩
inductive F_lsigned : List Dt → Res → Prop where
  | mk (text : List Nat) (kds : List (Key × Dt)) (φ : Nat → Nat) (hl : text.length ≤ 1000) (hf : ∀ g ∈ text, valD kds (.inr ⟨[g].toArray⟩) = some (.str [φ g])) : F_lsigned [.str text, .dk (kds.map (·.1)) (kds.map (·.2))] (.val (.str (text.map φ)))
theorem ok_lsigned {f : Addr} {fd : FuncData} (F : Fun K "_law_signed" "_law_signed" s_lsigned f fd) : FnD P w K mg base T 1 f fd ["_law_text", "_law_names"] F_lsigned := by
  refine fn_ok F sc_lsigned fun cdv A outer s H E ds r hr hln hF => ?_
  have nd := sc_lsigned.nd
  have hu64 := hr.units
  cases hF with
  | mk text kds φ hl hf =>
    have hzs : (text.map fun g => [φ g]).flatten = text.map φ := by
      clear hl hf hln
      induction text with
      | nil => rfl
      | cons a r ih => rw [List.map_cons, List.flatten_cons, List.map_cons, ih]; rfl
    refine psd_one (psd_ret (d := .str (text.map φ)) ?val rfl)
    rw [← hzs]
    refine pd_join rfl (zs := text.map fun g => [φ g]) (PR.dat (o := .lst _) (pr_lc rfl nd (blkOk_by (N := ["_law_text", "_law_names", "_law_sign"]) (sc := defScope s_lsigned) (own := [("_law_sign", 2)]) (by decide +kernel)) (pid_str (pd_v 0 rfl)) ?hl ?hz ?turn)) ?hj
    case hl => simp
    case hz => rw [List.length_map]; exact Nat.lt_of_le_of_lt hl (by decide)
    case hj => rw [hzs, List.length_map]; exact sz_le (by omega)
    case turn =>
      intro i d o h1 h2
      rw [List.map_map] at h2
      obtain ⟨g, hg, rfl, rfl⟩ := map_get2 h1 h2
      refine ⟨[2], _, by simp, fun s0 H0 C cl fp => gd_name 2 nd, fun s0 H0 C cl fp => pd_dget (d1 := .str [g]) hu64 (pd_v 1 rfl) (pd_v 2 rfl) ?_⟩
      show some (valD ((kds.map (·.1)).zip (kds.map (·.2))) (.inr ⟨[g].toArray⟩)) = _
      rw [zip_keys, hf g (List.mem_of_getElem? hg)]
      rfl
/-! ### fewer rules -/
theorem sc_lfewer : FnScope ["_law_reader", "_law_fewer_here", "_law_spots", "_law_weights_here", "_law_others", "_law_arrow", "_law_spot_here", "_law_least"] ["_law_reader", "_law_fewer_here", "_law_spots"] (defScope s_lfewer) := ⟨rfl, rfl, rfl, by decide +kernel, rfl, by decide +kernel, by decide +kernel⟩
inductive F_lfewer (C : Addr) : List Dt → Res → Prop where
  | mk (n e e' : Int) (R R' : Nat) (rs rs' : List Rl) (own own' : List Arw) (W W' : List (Arw × Int)) (Z Z' : Rsn) (qs : List (Int × List Nat)) (h : RdOk n R W) (h' : RdOk n R' W') (hd : Dec W W') (hq : ∀ q ∈ qs, 0 ≤ q.1 ∧ q.1 < n ∧ Sgs q.2 ∧ q.2.length ≤ 1000) (hl : qs.length ≤ 100)
      (hle : ∀ q ∈ qs, ∀ v, lkG (readFrom W' R' q.1 q.2) e' = some v → ∃ v', lkG (readFrom W R q.1 q.2) e = some v' ∧ v' ≤ v) :
      F_lfewer C [rdrD C (fs7 n rs own (R : Int) e W Z), rdrD C (fs7 n rs' own' (R' : Int) e' W' Z'), .lst (qs.map spD)] (.val (.bl true))
theorem ok_lfewer {f C BS : Addr} {fd : FuncData} (F : Fun K "_law_fewer" "_law_fewer" s_lfewer f fd) (G_weights : Callee P w K mg base T "_law_weights" 5 ["_law_reader"] (F_lweights C)) (G_least : CalleeM P w K mg base T C "least" 6 ["self", "spot"] (F_mleast C BS)) : FnD P w K mg base T 7 f fd ["_law_reader", "_law_fewer_here", "_law_spots"] (F_lfewer C) := by
  refine fn_ok F sc_lfewer fun cdv A outer s H E ds r hr hln hF => ?_
  have nd := sc_lfewer.nd
  have hu64 := hr.units
  have hr5 : Room 5 _ := hr.mono (by decide : 5 ≤ 6)
  cases hF with
  | mk n e e' R R' rs rs' own own' W W' Z Z' qs h h' hd hq hl hle =>
    refine psd_cons (psd_set 3 nd (d := wD (wOf W)) (PR.dat (o := .dt (wkd (wOf W))) (pr_calln G_weights hr5 (pad_cons (pd_v 0 rfl) pad_nil) (.mk n e (R : Int) rs own W Z h.g h.l))) ?_)
    refine psd_cons (psd_set 4 nd (d := wD (wOf W')) (PR.dat (o := .dt (wkd (wOf W'))) (pr_calln G_weights hr5 (pad_cons (pd_v 1 rfl) pad_nil) (.mk n e' (R' : Int) rs' own' W' Z' h'.g h'.l))) ?_)
    refine psd_cons (psd_forT (ks := (wkd (wOf W')).map (·.1)) (ds := (wkd (wOf W')).map (·.2)) 4 (passes_of rfl) rfl rfl (fun j Δ' => ∃ e5, Δ' = [some (.imm (rdrD C (fs7 n rs own (R : Int) e W Z))), some (.imm (rdrD C (fs7 n rs' own' (R' : Int) e' W' Z'))), some (.imm (.lst (qs.map spD))), some (.imm (wD (wOf W))), some (.imm (wD (wOf W'))), e5, none, none]) ⟨none, rfl⟩ (fun j k Δ' hk iv => ?_) (fun Δ' iv => ?_) (fun _ _ h => h))
    · obtain ⟨e5, rfl⟩ := iv
      rw [show (wkd (wOf W')).map (·.1) = (wOf W').map fun p => akey p.1 from tab_keys (wOf W'), List.getElem?_map] at hk
      cases hp : (wOf W')[j]? with
      | none => rw [hp] at hk; cases hk
      | some p =>
        rw [hp] at hk
        cases hk
        obtain ⟨v, hv⟩ : ∃ v, lkG W' p.1 = some v := by
          rw [← wOf_get]
          exact Option.isSome_iff_exists.mp (lk_in.mp (List.mem_map.mpr ⟨p, List.mem_of_getElem? hp, rfl⟩))
        obtain ⟨v', k1, k2⟩ := hd p.1 v hv
        have g1 : dGet (wD (wOf W')) (adt p.1) = some (some (.int v)) := by rw [wD_get, wOf_get, hv]; rfl
        have g2 : dGet (wD (wOf W)) (adt p.1) = some (some (.int v')) := by rw [wD_get, wOf_get, k1]; rfl
        rw [show tkeyD (akey p.1) = adt p.1 from rfl]
        refine ⟨_, _, (gd_name 5 nd), ?_⟩
        refine psd_one (psd_if (k := false) (ptd_k (pwd_or (k := false) (l := false) (ptd_k (ptd_dnotin (d1 := adt p.1) hu64 (pd_v 5 rfl) (pd_v 3 rfl) g2) rfl) fun _ => (pwd_or1 (ptd_k (ptd_cmp op_lt (nomark _) (pd_dget (d1 := adt p.1) hu64 (pd_v 4 rfl) (pd_v 5 rfl) g1) (pd_dget (d1 := adt p.1) hu64 (pd_v 3 rfl) (pd_v 5 rfl) g2) opd_cmpI) (decide_eq_false (by omega))))).pt rfl) (fun z => nomatch z) (fun _ => psd_nil ?_))
        exact ⟨_, rfl⟩
    · obtain ⟨e5, rfl⟩ := iv
      refine psd_cons (psd_for (passes_of rfl) rfl (pid_list (pd_v 2 rfl)) (fun j Δ' => ∃ e6 e7, Δ' = [some (.imm (rdrD C (fs7 n rs own (R : Int) e W Z))), some (.imm (rdrD C (fs7 n rs' own' (R' : Int) e' W' Z'))), some (.imm (.lst (qs.map spD))), some (.imm (wD (wOf W))), some (.imm (wD (wOf W'))), e5, e6, e7]) ⟨_, _, rfl⟩ (fun j d Δ' hd' iv => ?_) (fun Δ' iv => ?_))
      · obtain ⟨e6, e7, rfl⟩ := iv
        obtain ⟨q, hj, rfl⟩ := map_get hd'
        have hqm := List.mem_of_getElem? hj
        obtain ⟨g0, g1, g2, g3⟩ := hq q hqm
        refine ⟨_, _, (gd_name 6 nd), ?_⟩
        refine psd_cons (psd_set 7 nd (d := leD W' R' e' q) (pd_least G_least hr (pd_v 1 rfl) (pd_v 6 rfl) h'.r g0 g1 g2 g3) ?_)
        cases hl2 : lkG (readFrom W' R' q.1 q.2) e' with
        | none =>
          rw [leD_none hl2]
          refine psd_one (psd_if (k := false) (ptd_k (pwd_and (k := false) (l := false) (ptd_cmp op_notN (nomark _) (pd_v 7 rfl) pd_non (opd_notN (d1 := .non) trivial)) fun z => nomatch z).pt rfl) (fun z => nomatch z) (fun _ => psd_nil ?_))
          exact ⟨_, _, rfl⟩
        | some v =>
          rw [leD_some hl2]
          obtain ⟨v', k1, k2⟩ := hle q hqm v hl2
          have hle2 : leD W R e q = .int v' := leD_some k1
          refine psd_one (psd_if (k := false) (ptd_k (pwd_and (k := true) (l := false) (ptd_cmp op_notN (nomark _) (pd_v 7 rfl) pd_non (opd_notN (d1 := .int v) trivial)) fun _ => (pwd_and1 (ptd_k (pwd_or (k := false) (l := false) (ptd_cmp op_isN (nomark _) (pd_dk (pd_least G_least hr (pd_v 0 rfl) (pd_v 6 rfl) h.r g0 g1 g2 g3) hle2) pd_non (opd_isN (d1 := .int v') trivial)) fun _ => (pwd_or1 (ptd_k (ptd_cmp op_lt (nomark _) (pd_v 7 rfl) (pd_dk (pd_least G_least hr (pd_v 0 rfl) (pd_v 6 rfl) h.r g0 g1 g2 g3) hle2) opd_cmpI) (decide_eq_false (by omega))))).pt rfl))).pt rfl) (fun z => nomatch z) (fun _ => psd_nil ?_))
          exact ⟨_, _, rfl⟩
      · obtain ⟨e6, e7, rfl⟩ := iv
        exact psd_one (psd_ret pd_bl rfl)
end
end K14

set_option Elab.async false
set_option linter.all false
set_option maxRecDepth 100000
set_option maxHeartbeats 2000000
/-! LM15: other signs. -/
namespace LM
open PySem PySem.Spec L2 DL
def ren (φ : Nat → Nat) (k : Arw) : Arw := (k.1, φ k.2.1, k.2.2)
def renR (φ : Nat → Nat) (r : Rl) : Rl := ⟨r.s, φ r.g, r.t, r.p.map φ⟩
section
variable {n : Nat} {rs rs' : List Rl} {own : List Arw} {W W' : List (Arw × Int)} {φ ψ : Nat → Nat}
theorem WalkC.ren (nn : ∀ k v, lkG W k = some v → 0 ≤ v) {b : Int} : ∀ {t : List Nat} {a c : Int}, WalkC W n a t b c → (∀ k x, lkG W k = some x → x ≤ c → ∃ x', lkG W' (LM.ren φ k) = some x' ∧ x' ≤ x) → ∃ c', WalkC W' n a (t.map φ) b c' ∧ c' ≤ c
  | [], a, c, ⟨h1, h2⟩, _ => ⟨c, ⟨h1, h2⟩, Int.le_refl _⟩
  | g :: t, a, c, ⟨m, x, c2, h0, h1, h2, h3, e⟩, d => by
    have hx := nn _ _ h2
    have hc := h3.nn nn
    obtain ⟨x', k1, k2⟩ := d _ x h2 (by omega)
    obtain ⟨c3, k3, k4⟩ := WalkC.ren nn h3 fun k y hy hl => d k y hy (by omega)
    exact ⟨x' + c3, ⟨m, x', c3, h0, h1, k1, k3, rfl⟩, by omega⟩
theorem ren_at (sn : Snd n rs own W) (cl : Closed n rs' W') (ow : ∀ a ∈ own, lkG W' (ren φ a) = some 0) (sub : ∀ r ∈ rs, renR φ r ∈ rs') : ∀ (m : Nat) (k : Arw) (v : Int), v ≤ m → lkG W k = some v → ∃ v', lkG W' (ren φ k) = some v' ∧ v' ≤ v
  | m, k, v, hm, h => by
    have hv := sn.nn k v h
    rcases sn.rsn k v h with q | ⟨r, hr, room, c, e, hw, hc⟩
    · exact ⟨0, ow k q, hv⟩
    · have hc0 := hw.nn sn.nn
      match m, hm with
      | 0, hm => omega
      | m + 1, hm =>
        obtain ⟨c', h1, h2⟩ := hw.ren sn.nn fun j x hx hl => ren_at sn cl ow sub m j x (by omega) hx
        obtain ⟨v1, h3, h4⟩ := read_le _ h1
        have hmem : room ∈ (readFrom W' n (renR φ r).t (renR φ r).p).map (·.1) := by
          have : ((readFrom W' n r.t (r.p.map φ)).any fun p => decide (p.1 = room)) = true := by rw [lkG_any, h3]; rfl
          obtain ⟨p, hp, e⟩ := List.any_eq_true.mp this
          exact List.mem_map.mpr ⟨p, hp, of_decide_eq_true e⟩
        obtain ⟨x, k1, k2⟩ := cl _ (sub r hr) room hmem
        have k2 : x ≤ (lkG (readFrom W' n r.t (r.p.map φ)) room).getD 0 + 1 := k2
        rw [h3] at k2
        have k2 : x ≤ v1 + 1 := k2
        exact ⟨x, by rw [e]; exact k1, by omega⟩
/-- what one table knows the other knows in other signs, at no more -/
def DecR (φ : Nat → Nat) (W' W : List (Arw × Int)) : Prop := ∀ k v, lkG W k = some v → ∃ v', lkG W' (ren φ k) = some v' ∧ v' ≤ v
theorem renamed (sn : Snd n rs own W) (cl : Closed n rs' W') (ow : ∀ a ∈ own, lkG W' (ren φ a) = some 0) (sub : ∀ r ∈ rs, renR φ r ∈ rs') : DecR φ W' W := fun k v h => ren_at sn cl ow sub v.toNat k v (by omega) h
theorem decR_read (nn : ∀ k v, lkG W k = some v → 0 ≤ v) (d : DecR φ W' W) {a b v : Int} {t : List Nat} (h : lkG (readFrom W n a t) b = some v) : ∃ v', lkG (readFrom W' n a (t.map φ)) b = some v' ∧ v' ≤ v := by
  obtain ⟨c, h1, h2⟩ := (read_walk t h).ren nn fun k x hx _ => d k x hx
  obtain ⟨v', h3, h4⟩ := read_le _ h1
  exact ⟨v', h3, by omega⟩
theorem decR_read_eq (nn : ∀ k v, lkG W k = some v → 0 ≤ v) (nn' : ∀ k v, lkG W' k = some v → 0 ≤ v) (d : DecR φ W' W) (d' : DecR ψ W W') (a b : Int) (t : List Nat) (ht : (t.map φ).map ψ = t) : lkG (readFrom W n a t) b = lkG (readFrom W' n a (t.map φ)) b := by
  cases h : lkG (readFrom W n a t) b with
  | none =>
    cases h' : lkG (readFrom W' n a (t.map φ)) b with
    | none => rfl
    | some v =>
      obtain ⟨x, k1, _⟩ := decR_read nn' d' h'
      rw [ht, h] at k1
      cases k1
  | some v =>
    obtain ⟨x, k1, k2⟩ := decR_read nn d h
    obtain ⟨y, k3, k4⟩ := decR_read nn' d' k1
    rw [ht, h] at k3
    have : v = y := Option.some.inj k3
    rw [k1, show v = x by omega]
theorem decR_eq (d : DecR φ W' W) (d' : DecR ψ W W') (k : Arw) (hk : ψ (φ k.2.1) = k.2.1) : lkG W k = lkG W' (ren φ k) := by
  have e : ren ψ (ren φ k) = k := by
    obtain ⟨a, g, b⟩ := k
    show (a, ψ (φ g), b) = (a, g, b)
    rw [show ψ (φ g) = g from hk]
  cases h : lkG W k with
  | none =>
    cases h' : lkG W' (ren φ k) with
    | none => rfl
    | some v =>
      obtain ⟨x, k1, _⟩ := d' _ v h'
      rw [e, h] at k1
      cases k1
  | some v =>
    obtain ⟨x, k1, k2⟩ := d k v h
    obtain ⟨y, k3, k4⟩ := d' _ x k1
    rw [e, h] at k3
    have : v = y := Option.some.inj k3
    rw [k1, show v = x by omega]
end
/-! ### three signs for three -/
def swap3 (g1 g2 h1 h2 h3 : Nat) (g : Nat) : Nat := if g = g1 then h1 else if g = g2 then h2 else h3
theorem swap3_back {g1 g2 g3 h1 h2 h3 g : Nat} (hn : h1 ≠ h2 ∧ h1 ≠ h3 ∧ h2 ≠ h3) (hg : g = g1 ∨ g = g2 ∨ g = g3) (gn : g1 ≠ g2 ∧ g1 ≠ g3 ∧ g2 ≠ g3) : swap3 h1 h2 g1 g2 g3 (swap3 g1 g2 h1 h2 h3 g) = g := by
  obtain ⟨a1, a2, a3⟩ := hn
  obtain ⟨b1, b2, b3⟩ := gn
  unfold swap3
  rcases hg with z | z | z
  · rw [if_pos z, if_pos rfl, z]
  · rw [z, if_neg b1.symm, if_pos rfl, if_neg a1.symm, if_pos rfl]
  · rw [z, if_neg b2.symm, if_neg b3.symm, if_neg a2.symm, if_neg a3.symm]
theorem names_get {g1 g2 g3 h1 h2 h3 g : Nat} (gn : g1 ≠ g2 ∧ g1 ≠ g3 ∧ g2 ≠ g3) (hg : g = g1 ∨ g = g2 ∨ g = g3) : valD (zipK [[g1], [g2], [g3]] [.str [h1], .str [h2], .str [h3]]) (.inr ⟨[g].toArray⟩) = some (.str [swap3 g1 g2 h1 h2 h3 g]) := by
  obtain ⟨b1, b2, b3⟩ := gn
  have inj : ∀ {x y : Nat}, (Sum.inr ⟨[x].toArray⟩ : Key) = .inr ⟨[y].toArray⟩ ↔ x = y := fun {x y} => by
    constructor
    · intro h
      injection h with h
      injection h with h
      have := congrArg Array.toList h
      simpa using this
    · intro h; rw [h]
  show valD (putD (putD (putD [] (Sum.inr ⟨[g1].toArray⟩ : Key) (.str [h1])) (Sum.inr ⟨[g2].toArray⟩ : Key) (.str [h2])) (Sum.inr ⟨[g3].toArray⟩ : Key) (.str [h3])) (Sum.inr ⟨[g].toArray⟩ : Key) = _
  rw [valD_put, valD_put, valD_put]
  simp only [inj]
  unfold swap3
  rcases hg with z | z | z
  · rw [z, if_neg b2, if_neg b1, if_pos rfl, if_pos rfl]
  · rw [z, if_neg b3, if_pos rfl, if_neg b1.symm, if_pos rfl]
  · rw [z, if_pos rfl, if_neg b2.symm, if_neg b3.symm]
theorem sgn_inj {a b : Int} (h : sgn a = sgn b) : a % 26 = b % 26 := by
  have e : ∀ c : Int, sgn c = 97 + (c % 26).toNat := fun c => by
    have h1 : 0 ≤ c % 26 := Int.emod_nonneg _ (by decide)
    have h2 : c % 26 < 26 := Int.emod_lt_of_pos _ (by decide)
    unfold sgn abc
    rw [List.getD_eq_getElem?_getD, List.getElem?_map, List.getElem?_range (by omega)]
    rfl
  rw [e, e] at h
  have h1 : 0 ≤ a % 26 := Int.emod_nonneg _ (by decide)
  have h2 : 0 ≤ b % 26 := Int.emod_nonneg _ (by decide)
  omega
theorem sg3_ne (c : Int) : sgn c ≠ sgn (c + 1 + c / 26 % 12) ∧ sgn c ≠ sgn (c + 13 + c / 312 % 12) ∧ sgn (c + 1 + c / 26 % 12) ≠ sgn (c + 13 + c / 312 % 12) := by
  have h1 : 0 ≤ c / 26 % 12 := Int.emod_nonneg _ (by decide)
  have h2 : c / 26 % 12 < 12 := Int.emod_lt_of_pos _ (by decide)
  have h3 : 0 ≤ c / 312 % 12 := Int.emod_nonneg _ (by decide)
  have h4 : c / 312 % 12 < 12 := Int.emod_lt_of_pos _ (by decide)
  generalize c / 26 % 12 = d1 at h1 h2 ⊢
  generalize c / 312 % 12 = d2 at h3 h4 ⊢
  refine ⟨fun h => ?_, fun h => ?_, fun h => ?_⟩
  · have := sgn_inj h
    omega
  · have := sgn_inj h
    omega
  · have := sgn_inj h
    omega
end LM

set_option Elab.async false
set_option linter.all false
set_option maxRecDepth 100000
set_option maxHeartbeats 2000000
/-! LM16: what the laws draw is in the three signs. -/
namespace LM
open PySem PySem.Spec L2 DL
theorem some5_in {sl : List Nat} (h3 : sl.length = 3) {k : Nat} (hk : k < 5) : (some5 sl).getD k 0 ∈ sl := by
  match sl, h3 with
  | [a, b, c], _ =>
    match k, hk with
    | 0, _ => simp [some5]
    | 1, _ => simp [some5]
    | 2, _ => simp [some5]
    | 3, _ => simp [some5]
    | 4, _ => simp [some5]
theorem five_in {sl : List Nat} (h3 : sl.length = 3) (x : Int) : (some5 sl).getD (x % 5).toNat 0 ∈ sl := by
  have h0 : 0 ≤ x % 5 := Int.emod_nonneg _ (by decide)
  have h1 : x % 5 < 5 := Int.emod_lt_of_pos _ (by decide)
  exact some5_in h3 (by omega)
theorem goalP_in {c : Int} {sl : List Nat} (h3 : sl.length = 3) : ∀ g ∈ goalP c sl, g ∈ sl := fun g hg => by
  obtain ⟨k, _, rfl⟩ := List.mem_map.mp hg
  exact five_in h3 _
theorem spotP_in {c : Int} {sl gl : List Nat} (h3 : sl.length = 3) (hg : ∀ g ∈ gl, g ∈ sl) : ∀ g ∈ spotP c sl gl, g ∈ sl := by
  have h0 : ∀ g ∈ spotP0 c sl, g ∈ sl := fun g hg => by
    obtain ⟨k, _, rfl⟩ := List.mem_map.mp hg
    exact five_in h3 _
  unfold spotP
  split
  · intro g h
    rcases List.mem_append.mp h with z | z
    · exact h0 g (mem_cutD z)
    · exact hg g z
  · exact h0
theorem rlsOf_in {ns : List Int} {many : Int} {sl : List Nat} {i : Nat} (h3 : sl.length = 3) : ∀ r ∈ rlsOf ns many sl i, r.g ∈ sl ∧ ∀ g ∈ r.p, g ∈ sl := fun r hr => by
  obtain ⟨k, _, rfl⟩ := List.mem_map.mp hr
  refine ⟨five_in h3 _, fun g hg => ?_⟩
  obtain ⟨j, _, rfl⟩ := List.mem_map.mp hg
  exact five_in h3 _
theorem map_back {φ ψ : Nat → Nat} {l : List Nat} (h : ∀ g ∈ l, ψ (φ g) = g) : (l.map φ).map ψ = l := by
  rw [List.map_map]
  exact (List.map_congr_left h).trans (List.map_id l)
theorem renR_good {many : Int} {φ : Nat → Nat} {r : Rl} (h : GoodR many r) (hg : sgOk (φ r.g) = true) (hp : Sgs (r.p.map φ)) : GoodR many (renR φ r) := ⟨h.s0, h.s1, h.t0, h.t1, hg, hp, by show (r.p.map φ).length ≤ 2; rw [List.length_map]; exact h.l⟩
/-- the weights in other signs, as the law takes them down -/
def dueOf (φ : Nat → Nat) (A : List (Arw × Int)) : List (Arw × Int) := A.foldl (fun acc p => putG acc (ren φ p.1) p.2) []
theorem dueUp {φ ψ : Nat → Nat} : ∀ (A acc : List (Arw × Int)), (A.map (·.1)).Nodup → (∀ p ∈ A, ψ (φ p.1.2.1) = p.1.2.1) → (∀ p ∈ A, lkG acc (ren φ p.1) = none) → A.foldl (fun acc p => putG acc (ren φ p.1) p.2) acc = acc ++ A.map fun p => (ren φ p.1, p.2)
  | [], acc, _, _, _ => (List.append_nil _).symm
  | p :: A, acc, hn, hb, hz => by
    rw [List.map_cons, List.nodup_cons] at hn
    have hp : putG acc (ren φ p.1) p.2 = acc ++ [(ren φ p.1, p.2)] := by
      unfold putG
      rw [lkG_any, hz p List.mem_cons_self]
      rfl
    have inj : ∀ q ∈ A, ren φ q.1 ≠ ren φ p.1 := fun q hq e => by
      have h1 := hb q (List.mem_cons_of_mem _ hq)
      have h2 := hb p List.mem_cons_self
      obtain ⟨⟨a, g, b⟩, x⟩ := q
      obtain ⟨⟨a', g', b'⟩, x'⟩ := p
      injection e with e1 e2
      injection e2 with e2 e3
      have h1 : ψ (φ g) = g := h1
      have h2 : ψ (φ g') = g' := h2
      have e2 : φ g = φ g' := e2
      have : g = g' := by rw [← h1, ← h2, e2]
      have e1 : a = a' := e1
      have e3 : b = b' := e3
      subst e1 e3 this
      exact hn.1 (List.mem_map.mpr ⟨_, hq, rfl⟩)
    rw [List.foldl_cons, hp, dueUp (ψ := ψ) A (acc ++ [(ren φ p.1, p.2)]) hn.2 (fun q hq => hb q (List.mem_cons_of_mem _ hq)) (fun q hq => ?_), List.map_cons, List.append_assoc]
    · rfl
    · rw [← hp, lkG_put, if_neg (inj q hq)]
      exact hz q (List.mem_cons_of_mem _ hq)
theorem dueOf_is {φ ψ : Nat → Nat} {A : List (Arw × Int)} (hn : (A.map (·.1)).Nodup) (hb : ∀ p ∈ A, ψ (φ p.1.2.1) = p.1.2.1) : dueOf φ A = A.map fun p => (ren φ p.1, p.2) := by
  unfold dueOf
  rw [dueUp (ψ := ψ) A [] hn hb (fun _ _ => rfl)]
  rfl
theorem dueOf_take {φ : Nat → Nat} {A : List (Arw × Int)} {i : Nat} {p : Arw × Int} (h : A[i]? = some p) : dueOf φ (A.take (i + 1)) = putG (dueOf φ (A.take i)) (ren φ p.1) p.2 := by
  obtain ⟨hi, e⟩ := List.getElem?_eq_some_iff.mp h
  unfold dueOf
  rw [List.take_succ_eq_append_getElem hi, List.foldl_append, e]
  rfl
theorem mem_of_lk {A : List (Arw × Int)} {k : Arw} {x : Int} (h : lkG A k = some x) : (k, x) ∈ A := by
  unfold lkG at h
  cases q : A.find? (fun p => decide (p.1 = k)) with
  | none => rw [q] at h; cases h
  | some p =>
    rw [q] at h
    have h : p.2 = x := Option.some.inj h
    have h1 := List.find?_some q
    have h1 : p.1 = k := of_decide_eq_true h1
    have := List.mem_of_find?_eq_some q
    rw [← h, ← h1]
    exact this
theorem lk_of_mem' {A : List (Arw × Int)} (hn : (A.map (·.1)).Nodup) {p : Arw × Int} (h : p ∈ A) : lkG A p.1 = some p.2 := by
  induction A with
  | nil => cases h
  | cons a r ih =>
    rw [List.map_cons, List.nodup_cons] at hn
    rcases List.mem_cons.mp h with z | z
    · rw [z]; exact lkG_pos rfl
    · rw [lkG_neg fun e => hn.1 (by rw [e]; exact List.mem_map.mpr ⟨p, z, rfl⟩)]
      exact ih hn.2 z
end LM

set_option Elab.async false
set_option linter.all false
set_option maxRecDepth 100000
set_option maxHeartbeats 4000000
namespace K14
open PySem PySem.Spec L2 DL LM
section
variable {P : Program} {w : World} {K : PySem.W.Frag} {mg : Str → Option Value} {base : Heap} {T : List Addr}
/-! ### readers of the same machine -/
theorem takenW_eq {W W' : List (Arw × Int)} (h : ∀ a, lkG W a = lkG W' a) (l : List Arw) : takenW W l = takenW W' l := by
  have e : (fun (acc : List (Arw × Int)) a => putG acc a ((lkG W a).getD 0)) = fun acc a => putG acc a ((lkG W' a).getD 0) := by
    funext acc a
    rw [h a]
  unfold takenW
  rw [e]
theorem wOf_eq {W W' : List (Arw × Int)} (n1 : (W.map (·.1)).Nodup) (n2 : (W'.map (·.1)).Nodup) (h : ∀ a, lkG W a = lkG W' a) : wOf W = wOf W' := by
  unfold wOf
  rw [sort_eq n1 n2 h]
  exact takenW_eq h _
/-- all that a law wants of a reader's tables -/
structure Tab (many ga : Int) (gl : List Nat) (rs : List Rl) (R : Nat) (W : List (Arw × Int)) : Prop where
  M : Mach many ga gl rs R (endOf many ga gl) W
  G : LM.Good (allA R rs (ownAs many ga gl gl.length)) W
  rd : RdOk many R W
theorem Tab.nn {many ga : Int} {gl : List Nat} {rs : List Rl} {R : Nat} {W : List (Arw × Int)} (t : Tab many ga gl rs R W) : ∀ k v, lkG W k = some v → 0 ≤ v := t.M.sn.nn
theorem tab_signs {many ga : Int} {gl : List Nat} {rs : List Rl} {R : Nat} {e : Int} {W : List (Arw × Int)} (M : Mach many ga gl rs R e W) {S : Nat → Prop} (hg : ∀ c ∈ gl, S c) (hr : ∀ r ∈ rs, S r.g) : ∀ a ∈ W.map (·.1), S a.2.1 := fun a ha => by
  obtain ⟨x, hx⟩ := Option.isSome_iff_exists.mp (lk_in.mp ha)
  rcases M.sn.rsn a x hx with q | ⟨r, hr', room, c, rfl, _, _⟩
  · obtain ⟨j, hj, rfl⟩ := mem_own q
    show S (gl.getD j 0)
    rw [List.getD_eq_getElem?_getD, List.getElem?_eq_getElem hj]
    exact hg _ (List.getElem_mem hj)
  · exact hr r hr'
theorem tab_exists (C : Addr) {n a : Int} {rs : List Rl} {pl : List Nat} (hm : 0 < n) (hm5 : n ≤ 5) (hR : ∀ r ∈ rs, GoodR n r) (hl : rs.length ≤ 12) (ha0 : 0 ≤ a) (ha1 : a < n) (hp : Sgs pl) (hpl : pl.length ≤ 4) :
    ∃ (R : Nat) (W : List (Arw × Int)) (Z : Rsn), R ≤ 1000 ∧ F_find C (.ins C (fs5 n rs (ownAs n a pl pl.length) (n + (pl.length : Int)) (endOf n a pl))) [] (.ok .non (.ins C (fs7 n rs (ownAs n a pl pl.length) (R : Int) (endOf n a pl) W Z))) ∧ Tab n a pl rs R W := by
  obtain ⟨R, W, Z, h1, h2, h3, h4⟩ := mach_exists C hm hm5 hR hl ha0 ha1 hp hpl
  refine ⟨R, W, Z, h1, h2, h3, h4, fun b hb => ?_, ?_, h1⟩
  · have := tab_signs h3 (S := fun c => sgOk c = true) (fun c hc => hp c hc) (fun r hr => (hR r hr).g) b hb
    exact fun c hc => by rw [List.mem_singleton.mp hc]; exact this
  · have k1 := h4.len
    rw [allA_len, ownAs_len] at k1
    have hR := h3.hR
    have k2 : rs.length * R ≤ 12 * 9 := Nat.mul_le_mul hl (by omega)
    omega
theorem tab_R {many ga ga' : Int} {gl gl' : List Nat} {rs rs' : List Rl} {R R' : Nat} {W W' : List (Arw × Int)} (t : Tab many ga gl rs R W) (t' : Tab many ga' gl' rs' R' W') (h : gl'.length = gl.length) : R' = R := by
  have h1 := t.M.hR
  have h2 := t'.M.hR
  omega
theorem tab_dec {many ga : Int} {gl : List Nat} {rs rs' : List Rl} {R R' : Nat} {W W' : List (Arw × Int)} (t : Tab many ga gl rs R W) (t' : Tab many ga gl rs' R' W') (h : ∀ r ∈ rs, r ∈ rs') : Dec W' W := by
  have e := tab_R t t' rfl
  subst e
  exact fewer t.M.sn t'.M.cl t'.M.sn.ow h
theorem tab_alike {many ga : Int} {gl : List Nat} {rs rs' : List Rl} {R R' : Nat} {W W' : List (Arw × Int)} (t : Tab many ga gl rs R W) (t' : Tab many ga gl rs' R' W') (h : ∀ r ∈ rs, r ∈ rs') (h' : ∀ r ∈ rs', r ∈ rs) : wOf W = wOf W' ∧ ∀ q, leD W R (endOf many ga gl) q = leD W' R' (endOf many ga gl) q := by
  have d := tab_dec t t' h
  have d' := tab_dec t' t h'
  refine ⟨wOf_eq t.G.nd t'.G.nd (dec_eq d d'), fun q => ?_⟩
  have e := tab_R t t' rfl
  subst e
  unfold leD
  rw [dec_read_eq d d']
theorem tab_fewer {many ga : Int} {gl : List Nat} {rs rs' : List Rl} {R R' : Nat} {W W' : List (Arw × Int)} (t : Tab many ga gl rs R W) (t' : Tab many ga gl rs' R' W') (h : ∀ r ∈ rs', r ∈ rs) (q : Int × List Nat) (v : Int) (hv : lkG (readFrom W' R' q.1 q.2) (endOf many ga gl) = some v) : ∃ v', lkG (readFrom W R q.1 q.2) (endOf many ga gl) = some v' ∧ v' ≤ v := by
  have e := tab_R t t' rfl
  subst e
  exact dec_read (tab_dec t' t h) hv
/-! ### the same machine in other signs -/
theorem tab_renamed {many ga : Int} {gl : List Nat} {rs : List Rl} {R R' : Nat} {W W' : List (Arw × Int)} {φ ψ : Nat → Nat} (t : Tab many ga gl rs R W) (t' : Tab many ga (gl.map φ) (rs.map (renR φ)) R' W') (hr : ∀ r ∈ rs, ψ (φ r.g) = r.g ∧ (r.p.map φ).map ψ = r.p) (hg : (gl.map φ).map ψ = gl) : R' = R ∧ DecR φ W' W ∧ DecR ψ W W' := by
  have e := tab_R t t' (List.length_map ..)
  subst e
  refine ⟨rfl, renamed t.M.sn t'.M.cl (fun a ha => ?_) (fun r hr => List.mem_map.mpr ⟨r, hr, rfl⟩), renamed t'.M.sn t.M.cl (fun a ha => ?_) (fun r hr' => ?_)⟩
  · obtain ⟨j, hj, rfl⟩ := mem_own ha
    refine t'.M.sn.ow _ ?_
    have := own_mem (many := many) (a := ga) (pl := gl.map φ) (j := j) (by rw [List.length_map]; exact hj)
    have e2 : (gl.map φ).getD j 0 = φ (gl.getD j 0) := by
      rw [List.getD_eq_getElem?_getD, List.getD_eq_getElem?_getD, List.getElem?_map, List.getElem?_eq_getElem hj]
      rfl
    rw [e2] at this
    exact this
  · obtain ⟨j, hj, rfl⟩ := mem_own ha
    rw [List.length_map] at hj
    have := own_mem (many := many) (a := ga) (pl := gl) (j := j) hj
    have e2 : ψ ((gl.map φ).getD j 0) = gl.getD j 0 := by
      have h1 : ((gl.map φ).map ψ)[j]? = gl[j]? := by rw [hg]
      rw [List.getElem?_map, List.getElem?_map, List.getElem?_eq_getElem hj] at h1
      have h2 : ψ (φ gl[j]) = gl[j] := Option.some.inj h1
      rw [List.getD_eq_getElem?_getD, List.getD_eq_getElem?_getD, List.getElem?_map, List.getElem?_eq_getElem hj]
      exact h2
    show lkG W (roomAt many ga j, ψ ((gl.map φ).getD j 0), many + (j : Int)) = some 0
    rw [e2]
    exact t.M.sn.ow _ this
  · obtain ⟨r0, hr0, rfl⟩ := List.mem_map.mp hr'
    obtain ⟨h1, h2⟩ := hr r0 hr0
    have e3 : renR ψ (renR φ r0) = r0 := by
      obtain ⟨s, g, t, p⟩ := r0
      show Rl.mk s (ψ (φ g)) t ((p.map φ).map ψ) = _
      rw [show ψ (φ g) = g from h1, show (p.map φ).map ψ = p from h2]
    rw [e3]
    exact hr0
theorem takenUp_keys {W : List (Arw × Int)} : ∀ (l : List Arw) (acc : List (Arw × Int)), l.Nodup → (∀ a ∈ l, lkG acc a = none) → (l.foldl (fun acc a => putG acc a ((lkG W a).getD 0)) acc).map (·.1) = acc.map (·.1) ++ l
  | [], acc, _, _ => (List.append_nil _).symm
  | a :: r, acc, hn, hz => by
    rw [List.nodup_cons] at hn
    have hk : (putG acc a ((lkG W a).getD 0)).map (·.1) = acc.map (·.1) ++ [a] := by
      rw [putG_keys, hz a List.mem_cons_self]
      rfl
    rw [List.foldl_cons, takenUp_keys r _ hn.2 (fun b hb => ?_), hk, List.append_assoc]
    · rfl
    · rw [lkG_put, if_neg fun e : b = a => hn.1 (by rw [← e]; exact hb)]
      exact hz b (List.mem_cons_of_mem _ hb)
theorem wOf_keys {W : List (Arw × Int)} (hn : (W.map (·.1)).Nodup) : (wOf W).map (·.1) = sortA (W.map (·.1)) := by
  unfold wOf takenW
  rw [takenUp_keys _ _ (sortA_nodup hn) (fun _ _ => rfl)]
  rfl
theorem wOf_nodup {W : List (Arw × Int)} (hn : (W.map (·.1)).Nodup) : ((wOf W).map (·.1)).Nodup := by
  rw [wOf_keys hn]
  exact sortA_nodup hn
theorem due_eq {W W' : List (Arw × Int)} {φ ψ : Nat → Nat} (n1 : (W.map (·.1)).Nodup) (n2 : (W'.map (·.1)).Nodup) (hW : ∀ a ∈ W.map (·.1), ψ (φ a.2.1) = a.2.1) (hW' : ∀ a ∈ W'.map (·.1), φ (ψ a.2.1) = a.2.1) (d : DecR φ W' W) (d' : DecR ψ W W') : (wOf W').length = (dueOf φ (wOf W)).length ∧ ∀ p ∈ wOf W', p ∈ dueOf φ (wOf W) := by
  have m1 : ∀ p ∈ wOf W, p.1 ∈ W.map (·.1) := fun p hp => by
    have : p.1 ∈ (wOf W).map (·.1) := List.mem_map.mpr ⟨p, hp, rfl⟩
    rw [wOf_keys n1] at this
    exact mem_sortA.mp this
  have m2 : ∀ p ∈ wOf W', p.1 ∈ W'.map (·.1) := fun p hp => by
    have : p.1 ∈ (wOf W').map (·.1) := List.mem_map.mpr ⟨p, hp, rfl⟩
    rw [wOf_keys n2] at this
    exact mem_sortA.mp this
  have hb : ∀ p ∈ wOf W, ψ (φ p.1.2.1) = p.1.2.1 := fun p hp => hW _ (m1 p hp)
  rw [dueOf_is (wOf_nodup n1) hb]
  have sub1 : ∀ p ∈ wOf W', p ∈ (wOf W).map fun p => (ren φ p.1, p.2) := fun p hp => by
    have h1 := lk_of_mem' (wOf_nodup n2) hp
    rw [wOf_get] at h1
    have h2 := hW' _ (m2 p hp)
    have e : ren φ (ren ψ p.1) = p.1 := by
      obtain ⟨⟨a, g, b⟩, x⟩ := p
      show (a, φ (ψ g), b) = (a, g, b)
      rw [show φ (ψ g) = g from h2]
    have h3 := decR_eq d d' (ren ψ p.1) (by show ψ (φ (ψ p.1.2.1)) = ψ p.1.2.1; rw [h2])
    rw [e, h1] at h3
    rw [← wOf_get] at h3
    refine List.mem_map.mpr ⟨_, mem_of_lk h3, ?_⟩
    show (ren φ (ren ψ p.1), p.2) = p
    rw [e]
  have sub2 : ∀ p ∈ (wOf W).map (fun p => (ren φ p.1, p.2)), p ∈ wOf W' := fun q hq => by
    obtain ⟨p, hp, rfl⟩ := List.mem_map.mp hq
    have h1 := lk_of_mem' (wOf_nodup n1) hp
    rw [wOf_get, decR_eq d d' p.1 (hb p hp), ← wOf_get] at h1
    exact mem_of_lk h1
  refine ⟨?_, sub1⟩
  have nd1 : (wOf W').Nodup := by
    have := wOf_nodup n2
    exact List.Pairwise.imp (fun h e => h (by rw [e])) (List.pairwise_map.mp this)
  have nd2 : ((wOf W).map fun p => (ren φ p.1, p.2)).Nodup := by
    refine List.pairwise_map.mpr (List.Pairwise.imp_of_mem (fun {p q} hp hq h e => ?_) (List.pairwise_map.mp (wOf_nodup n1)))
    have h1 := hb p hp
    have h2 := hb q hq
    obtain ⟨⟨a, g, b⟩, x⟩ := p
    obtain ⟨⟨a', g', b'⟩, x'⟩ := q
    injection e with e e4
    injection e with e1 e2
    injection e2 with e2 e3
    have h1 : ψ (φ g) = g := h1
    have h2 : ψ (φ g') = g' := h2
    have e2 : φ g = φ g' := e2
    have : g = g' := by rw [← h1, ← h2, e2]
    have e1 : a = a' := e1
    have e3 : b = b' := e3
    subst e1 e3 this
    exact h rfl
  have l1 := List.Nodup.length_le_of_subset nd1 sub1
  have l2 := List.Nodup.length_le_of_subset nd2 sub2
  omega
theorem sc_law : FnScope ["_law_script", "_law_many", "_law_signs_here", "_law_rules_here", "_law_goal_here", "_law_spots", "_law_k", "_law_cell", "_law_reader", "_law_turn", "_law_rows", "_law_others", "_law_fewer_here", "_law_names", "_law_signed_here", "_law_rule_here", "_law_second", "_law_state", "_law_pile", "_law_weights_here", "_law_due", "_law_arrow"] ["_law_script"] (defScope s_law) := ⟨rfl, rfl, rfl, by decide +kernel, rfl, by decide +kernel, by decide +kernel⟩
theorem ok_law {f C BM BS : Addr} {fd : FuncData} (F : Fun K "law" "law" s_law f fd) (Tx : Txt mg)
    (G_cell : Callee P w K mg base T "_law_cell_at" 1 ["_law_script", "_law_k"] F_cell) (G_signs : Callee P w K mg base T "_law_signs" 1 ["_law_cell"] F_signs) (G_mixed : Callee P w K mg base T "_law_mixed" 1 ["_law_cell", "_law_k"] F_mixed)
    (G_rules : Callee P w K mg base T "_law_rules" 2 ["_law_script", "_law_many", "_law_signs_here"] F_lrules) (G_goal : Callee P w K mg base T "_law_goal" 2 ["_law_cell", "_law_many", "_law_signs_here"] F_lgoal)
    (G_spot : Callee P w K mg base T "_law_spot" 2 ["_law_cell", "_law_many", "_law_signs_here", "_law_goal_here"] F_lspot) (G_weights : Callee P w K mg base T "_law_weights" 5 ["_law_reader"] (F_lweights C)) (G_signed : Callee P w K mg base T "_law_signed" 1 ["_law_text", "_law_names"] F_lsigned)
    (G_alike : Callee P w K mg base T "_law_alike" 7 ["_law_one", "_law_other", "_law_spots"] (F_lalike C)) (G_fewer : Callee P w K mg base T "_law_fewer" 7 ["_law_reader", "_law_fewer_here", "_law_spots"] (F_lfewer C))
    (G_reader : CalleeC P w K mg base T "Reader" C 7 ["self", "many", "rules", "goal"] (F_init C BM BS)) (G_least : CalleeM P w K mg base T C "least" 6 ["self", "spot"] (F_mleast C BS)) : FnD P w K mg base T 9 f fd ["_law_script"] LawF := by
  refine fn_ok F sc_law fun cdv A outer s H E ds r hr hln hF => ?_
  have nd := sc_law.nd
  have hu64 := hr.units
  have hr1 : Room 1 _ := hr.mono (by decide : 1 ≤ 8)
  have hr2 : Room 2 _ := hr.mono (by decide : 2 ≤ 8)
  have hr5 : Room 5 _ := hr.mono (by decide : 5 ≤ 8)
  have hr6 : Room 6 _ := hr.mono (by decide : 6 ≤ 8)
  have hr7 : Room 7 _ := hr.mono (by decide : 7 ≤ 8)
  cases hF with
  | mk ns hns =>
    have b5 := mod_bounds (cell ns 0) (m := 5) (by decide)
    have hm := manyT_b (cell ns 0)
    refine psd_cons (psd_set 1 nd (d := .int (manyT (cell ns 0))) (pd_ix (pr_lst (pad_cons pd_int (pad_cons pd_int (pad_cons pd_int (pad_cons pd_int (pad_cons pd_int pad_nil)))))).dat (pd_modI (pr_calln G_cell hr1 (pad_cons (pd_v 0 rfl) (pad_cons pd_int pad_nil)) (F_cell.mk ns 0)) pd_int (by decide)) (dix_ints (l := [1, 2, 2, 3, 5]) b5.1 b5.2)) ?_)
    generalize manyT (cell ns 0) = many at hm
    obtain ⟨sl, hsl⟩ : ∃ l : List Nat, l = sg3 (cell ns 1) := ⟨_, rfl⟩
    have hsl3 : sl.length = 3 := by rw [hsl]; rfl
    have hslo : Sgs sl := by rw [hsl]; exact sgs_sg3 _
    obtain ⟨g1, g2, g3, hslg, gn⟩ : ∃ g1 g2 g3, sl = [g1, g2, g3] ∧ (g1 ≠ g2 ∧ g1 ≠ g3 ∧ g2 ≠ g3) := ⟨_, _, _, hsl, sg3_ne _⟩
    refine psd_cons (psd_set 2 nd (d := .lst (sl.map fun g => .str [g])) (by rw [hsl]; exact PR.dat (o := .lst ((sg3 (cell ns 1)).map fun g => .str [g])) (pr_calln G_signs hr1 (pad_cons (pr_calln G_cell hr1 (pad_cons (pd_v 0 rfl) (pad_cons pd_int pad_nil)) (F_cell.mk ns 1)) pad_nil) (F_signs.mk _))) ?_)
    clear hsl
    have hrl : (rlsOf ns many sl (rszN ns)).length ≤ 12 := by rw [rlsOf_len]; exact rszN_le ns
    have hro : ∀ r ∈ rlsOf ns many sl (rszN ns), GoodR many r := rlsOf_good hm.1 hslo hsl3
    have hri : ∀ r ∈ rlsOf ns many sl (rszN ns), r.g ∈ sl ∧ ∀ g ∈ r.p, g ∈ sl := rlsOf_in hsl3
    refine psd_cons (psd_set 3 nd (d := .lst ((rlsOf ns many sl (rszN ns)).map rlD)) (PR.dat (o := .lst ((rlsOf ns many sl (rszN ns)).map rlD)) (pr_calln G_rules hr2 (pad_cons (pd_v 0 rfl) (pad_cons (pd_v 1 rfl) (pad_cons (pd_v 2 rfl) pad_nil))) (.mk ns many sl hm.1 hm.2 hsl3))) ?_)
    generalize rlsOf ns many sl (rszN ns) = rs at hrl hro hri
    have hgl := goalP_len (cell ns 3) sl
    have hgs := goalP_sg (c := cell ns 3) hslo hsl3
    have hgi := goalP_in (c := cell ns 3) hsl3
    have hga := mod_bounds (cell ns 3) hm.1
    refine psd_cons (psd_set 4 nd (d := spD (cell ns 3 % many, goalP (cell ns 3) sl)) (pr_calln G_goal hr2 (pad_cons (pr_calln G_cell hr1 (pad_cons (pd_v 0 rfl) (pad_cons pd_int pad_nil)) (F_cell.mk ns 3)) (pad_cons (pd_v 1 rfl) (pad_cons (pd_v 2 rfl) pad_nil))) (.mk _ many sl hm.1 hsl3)) ?_)
    generalize goalP (cell ns 3) sl = gl at hgl hgs hgi
    generalize cell ns 3 % many = ga at hga
    refine psd_cons (psd_setO 5 nd (pr_lst pad_nil) fun l_5 => ?_)
    refine psd_cons (psd_for (passes_of rfl) rfl (pid_range1 Tx.b_range pd_int (by decide) (by decide)) (fun i Δ' => ∃ (qs : List (Int × List Nat)) (e6 e7 : Option En), qs.length = i ∧ (∀ q ∈ qs, 0 ≤ q.1 ∧ q.1 < many ∧ Sgs q.2 ∧ q.2.length ≤ 11 ∧ ∀ g ∈ q.2, g ∈ sl) ∧ Δ' = [some (.imm (.scr ns)), some (.imm (.int many)), some (.imm (.lst (sl.map fun g => .str [g]))), some (.imm (.lst (rs.map rlD))), some (.imm (spD (ga, gl))), some (.own l_5 false (.lst (qs.map spD))), e6, e7, none, none, none, none, none, none, none, none, none, none, none, none, none, none]) ⟨[], none, none, rfl, (fun q hq => nomatch hq), rfl⟩ (fun i d Δ' hd iv => ?_) (fun Δ' iv => ?_))
    · obtain ⟨qs, e6, e7, hql, hqs, rfl⟩ := iv
      obtain ⟨hi, rfl⟩ := rangeN_get hd
      have hi4 : i < 4 := hi
      refine ⟨_, _, (gd_name 6 nd), ?_⟩
      have hk5 : ((5 * i : Nat) : Int) = 5 * (i : Int) := by omega
      have hsp := spotP_sg (c := mixed (cell ns (18 + i)) (5 * i)) hslo hsl3 hgs
      have hspl := spotP_len (mixed (cell ns (18 + i)) (5 * i)) sl gl
      have hspi := spotP_in (c := mixed (cell ns (18 + i)) (5 * i)) hsl3 hgi
      have hsa := mod_bounds (mixed (cell ns (18 + i)) (5 * i)) hm.1
      refine psd_cons (psd_set 7 nd (d := .int (mixed (cell ns (18 + i)) (5 * i))) (pr_calln G_mixed hr1 (pad_cons (pr_calln G_cell hr1 (pad_cons (pd_v 0 rfl) (pad_cons (pd_addI pd_int (pd_v 6 rfl)) pad_nil)) (F_cell.mk ns (18 + i))) (pad_cons (pd_mulI pd_int (pd_v 6 rfl) cm_l) pad_nil)) (by rw [← hk5]; exact F_mixed.mk _ (5 * i) (by omega))) ?_)
      refine psd_one (psd_append 5 rfl (d := spD (mixed (cell ns (18 + i)) (5 * i) % many, spotP (mixed (cell ns (18 + i)) (5 * i)) sl gl)) (pr_calln G_spot hr2 (pad_cons (pd_v 7 rfl) (pad_cons (pd_v 1 rfl) (pad_cons (pd_v 2 rfl) (pad_cons (pd_v 4 rfl) pad_nil)))) (.mk _ many ga sl gl hm.1 hsl3 (by omega))) ?_ ?_)
      · rw [List.length_map, hql]
        exact Nat.lt_of_le_of_lt (m := 10) (by omega) (by decide)
      · refine ⟨qs ++ [(mixed (cell ns (18 + i)) (5 * i) % many, spotP (mixed (cell ns (18 + i)) (5 * i)) sl gl)], _, _, by rw [List.length_append, hql]; rfl, fun q hq => ?_, by rw [List.map_append]; rfl⟩
        rcases List.mem_append.mp hq with h | h
        · exact hqs q h
        · rw [List.mem_singleton.mp h]
          exact ⟨hsa.1, hsa.2, hsp, (by show (spotP _ sl gl).length ≤ 11; omega), hspi⟩
    obtain ⟨qs, e6, e7, hql, hqs, rfl⟩ := iv
    have hql : qs.length = 4 := hql
    refine psd_freeze 5 rfl ?_
    have hqs' : ∀ q ∈ qs, 0 ≤ q.1 ∧ q.1 < many ∧ Sgs q.2 ∧ q.2.length ≤ 1000 := fun q hq => by
      obtain ⟨k0, k1, k2, k3, _⟩ := hqs q hq
      exact ⟨k0, k1, k2, by omega⟩
    obtain ⟨R, W, Z, hR, hF, t⟩ := tab_exists C hm.1 hm.2 hro hrl hga.1 hga.2 hgs hgl
    refine psd_cons (psd_setO 8 nd (pr_make G_reader hr (pad_cons (pd_v 1 rfl) (pad_cons (PR.dat (o := .lst (rs.map rlD)) (pr_list Tx.b_list (pd_v 3 rfl) rfl)) (pad_cons (pd_v 4 rfl) pad_nil))) (F_init.ok many ga rs gl _ (many_good hm.1 hm.2) (pl1_lst _) (rules_pl2 hro) (rules_good hro hrl) (spot_pl2 hgs.ok (by omega)) (goal_good hga.1 hga.2 hgs hgl) (by omega) hF) (fun d o z => by cases z; rfl)) fun l_8 => ?_)
    refine psd_freeze 8 rfl ?_
    have htb := mod_bounds (cell ns 4) (m := (rs.length : Int) + 1) (by omega)
    obtain ⟨k, hk⟩ : ∃ k : Nat, (k : Int) = cell ns 4 % ((rs.length : Int) + 1) := ⟨(cell ns 4 % ((rs.length : Int) + 1)).toNat, by omega⟩
    refine psd_cons (psd_set 9 nd (d := .int (k : Int)) (by rw [hk]; exact pd_modI (pr_calln G_cell hr1 (pad_cons (pd_v 0 rfl) (pad_cons pd_int pad_nil)) (F_cell.mk ns 4)) (pd_addI (pd_len Tx.b_len (pd_v 3 rfl) (by show some (rs.map rlD).length = _; rw [List.length_map])) pd_int) (by omega)) ?_)
    have hkl : k ≤ rs.length := by omega
    clear hk htb
    have hcd : ∀ n : Nat, cutD (rs.map rlD) (some (n : Int)) none = (rs.drop n).map rlD := fun n => by rw [cutD_drop, List.map_drop]
    have hct : ∀ n : Nat, cutD (rs.map rlD) none (some (n : Int)) = (rs.take n).map rlD := fun n => by rw [cutD_take, List.map_take]
    have zz : ∀ a b : List Rl, a.length ≤ 100 → b.length ≤ 100 → (a.map rlD).length + (b.map rlD).length ≤ sizeLine := fun a b ha hb => sz_le (by rw [List.length_map, List.length_map]; omega)
    refine psd_cons (psd_set 10 nd (d := .lst (([rs.reverse, rs.drop k ++ rs.take k] : List (List Rl)).map fun l => .lst (l.map rlD))) (PR.dat (o := .lst (([rs.reverse, rs.drop k ++ rs.take k] : List (List Rl)).map fun l => .lst (l.map rlD))) (pr_lst (pad_cons (pd_dk (k := .lst (rs.map rlD).reverse) (PR.dat (o := .lst (rs.map rlD).reverse) (pr_revL (pd_v 3 rfl))) (by show Dt.lst _ = Dt.lst (List.map rlD _); rw [List.map_reverse])) (pad_cons (pd_dk (k := .lst ((rs.drop k).map rlD ++ (rs.take k).map rlD)) (PR.dat (o := .lst ((rs.drop k).map rlD ++ (rs.take k).map rlD)) (pr_catL (pd_dk (k := .lst (cutD (rs.map rlD) (some (k : Int)) none)) (PR.dat (o := .lst (cutD (rs.map rlD) (some (k : Int)) none)) (pr_sliceL (pd_v 3 rfl) (pod_some (pd_v 9 rfl)) pod_none)) (by rw [hcd])) (pd_dk (k := .lst (cutD (rs.map rlD) none (some (k : Int)))) (PR.dat (o := .lst (cutD (rs.map rlD) none (some (k : Int)))) (pr_sliceL (pd_v 3 rfl) pod_none (pod_some (pd_v 9 rfl)))) (by rw [hct])) (zz _ _ (by rw [List.length_drop]; omega) (by rw [List.length_take]; omega)))) (by show Dt.lst _ = Dt.lst (List.map rlD _); rw [List.map_append])) pad_nil)))) ?_)
    obtain ⟨RR, hRR⟩ : ∃ RR : List (List Rl), RR = [rs.reverse, rs.drop k ++ rs.take k, (rs ++ rs.drop k).take 12] := ⟨_, rfl⟩
    have hRR1 : ∀ l ∈ RR, (∀ r ∈ rs, r ∈ l) ∧ (∀ r ∈ l, r ∈ rs) ∧ l.length ≤ 12 := fun l hl => by
      rw [hRR] at hl
      simp only [List.mem_cons, List.not_mem_nil, or_false] at hl
      rcases hl with z | z | z <;> subst z
      · exact ⟨fun r hr => List.mem_reverse.mpr hr, fun r hr => List.mem_reverse.mp hr, by rw [List.length_reverse]; exact hrl⟩
      · refine ⟨fun r hr => ?_, fun r hr => ?_, ?_⟩
        · have : r ∈ rs.take k ++ rs.drop k := by rw [List.take_append_drop]; exact hr
          exact List.mem_append.mpr ((List.mem_append.mp this).symm)
        · exact (List.mem_append.mp hr).elim (List.mem_of_mem_drop ·) (List.mem_of_mem_take ·)
        · rw [List.length_append, List.length_drop, List.length_take]
          omega
      · refine ⟨fun r hr => ?_, fun r hr => ?_, ?_⟩
        · rw [List.take_append]
          exact List.mem_append.mpr (.inl (by rw [List.take_of_length_le hrl]; exact hr))
        · exact (List.mem_append.mp (List.mem_of_mem_take hr)).elim id (List.mem_of_mem_drop ·)
        · rw [List.length_take]
          omega
    have hRRd : RR.map (fun l => Dt.lst (l.map rlD)) = (([rs.reverse, rs.drop k ++ rs.take k] : List (List Rl)).map fun l => Dt.lst (l.map rlD)) ++ [Dt.lst (((rs ++ rs.drop k).take 12).map rlD)] := by rw [hRR]; rfl
    refine psd_cons (psd_for (passes_of rfl) rfl (pid_list (pd_dk (k := .lst ((([rs.reverse, rs.drop k ++ rs.take k] : List (List Rl)).map fun l => Dt.lst (l.map rlD)) ++ [Dt.lst (((rs ++ rs.drop k).take 12).map rlD)])) (PR.dat (o := .lst ((([rs.reverse, rs.drop k ++ rs.take k] : List (List Rl)).map fun l => Dt.lst (l.map rlD)) ++ [Dt.lst (((rs ++ rs.drop k).take 12).map rlD)])) (pr_catL (pd_v 10 rfl) (PR.dat (o := .lst [Dt.lst (((rs ++ rs.drop k).take 12).map rlD)]) (pr_lst (pad_cons (pd_dk (k := .lst (cutD (rs.map rlD ++ (rs.drop k).map rlD) none (some ((12 : Nat) : Int)))) (PR.dat (o := .lst (cutD (rs.map rlD ++ (rs.drop k).map rlD) none (some ((12 : Nat) : Int)))) (pr_sliceL (PR.dat (o := .lst (rs.map rlD ++ (rs.drop k).map rlD)) (pr_catL (pd_v 3 rfl) (pd_dk (k := .lst (cutD (rs.map rlD) (some (k : Int)) none)) (PR.dat (o := .lst (cutD (rs.map rlD) (some (k : Int)) none)) (pr_sliceL (pd_v 3 rfl) (pod_some (pd_v 9 rfl)) pod_none)) (by rw [hcd])) (zz _ _ (by omega) (by rw [List.length_drop]; omega)))) pod_none (pod_some pd_int))) (by rw [cutD_take, ← List.map_append, List.map_take])) pad_nil))) (sz_le (Nat.le_of_ble_eq_true rfl)))) (by rw [← hRRd]))) (fun i Δ' => ∃ (e11 : Option En), Δ' = [some (.imm (.scr ns)), some (.imm (.int many)), some (.imm (.lst (sl.map fun g => .str [g]))), some (.imm (.lst (rs.map rlD))), some (.imm (spD (ga, gl))), some (.imm (.lst (qs.map spD))), e6, e7, some (.imm (rdrD C (fs7 many rs (ownAs many ga gl gl.length) (R : Int) (endOf many ga gl) W Z))), some (.imm (.int (k : Int))), some (.imm (.lst (([rs.reverse, rs.drop k ++ rs.take k] : List (List Rl)).map fun l => .lst (l.map rlD)))), e11, none, none, none, none, none, none, none, none, none, none]) ⟨_, rfl⟩ (fun i d Δ' hd iv => ?_) (fun Δ' iv => ?_))
    · obtain ⟨e11, rfl⟩ := iv
      obtain ⟨l, hi, rfl⟩ := map_get hd
      obtain ⟨hs1, hs2, hll⟩ := hRR1 l (List.mem_of_getElem? hi)
      have hlo : ∀ r ∈ l, GoodR many r := fun r hr => hro r (hs2 r hr)
      refine ⟨_, _, (gd_name 11 nd), ?_⟩
      obtain ⟨R2, W2, Z2, hR2, hF2, t2⟩ := tab_exists C hm.1 hm.2 hlo hll hga.1 hga.2 hgs hgl
      obtain ⟨a1, a2⟩ := tab_alike t t2 hs1 hs2
      refine psd_one (psd_if (k := false) (ptd_not (k := true) (ptd_val (pr_calln G_alike hr7 (pad_cons (pd_v 8 rfl) (pad_cons (PR.dat (pr_make G_reader hr (pad_cons (pd_v 1 rfl) (pad_cons (pd_v 11 rfl) (pad_cons (pd_v 4 rfl) pad_nil))) (F_init.ok many ga l gl _ (many_good hm.1 hm.2) (pl1_lst _) (rules_pl2 hlo) (rules_good hlo hll) (spot_pl2 hgs.ok (by omega)) (goal_good hga.1 hga.2 hgs hgl) (by omega) hF2) (fun d o z => by cases z; rfl))) (pad_cons (pd_v 5 rfl) pad_nil))) (F_lalike.mk many _ _ R R2 rs l _ _ W W2 Z Z2 qs t.rd t2.rd a1 hqs' (by omega) (fun q _ => a2 q))))) (fun z => nomatch z) (fun _ => psd_nil ?_))
      exact ⟨_, rfl⟩
    obtain ⟨e11, rfl⟩ := iv
    clear hRRd hRR1 hRR
    have hcd1 : cutD (rs.map rlD) (some ((k : Int) + 1)) none = (rs.drop (k + 1)).map rlD := hcd (k + 1)
    have hs3 : ∀ r ∈ rs.take k ++ rs.drop (k + 1), r ∈ rs := fun r hr => (List.mem_append.mp hr).elim (List.mem_of_mem_take ·) (List.mem_of_mem_drop ·)
    have hl3 : (rs.take k ++ rs.drop (k + 1)).length ≤ 12 := by
      rw [List.length_append, List.length_take, List.length_drop]
      omega
    have ho3 : ∀ r ∈ rs.take k ++ rs.drop (k + 1), GoodR many r := fun r hr => hro r (hs3 r hr)
    obtain ⟨R3, W3, Z3, hR3, hF3, t3⟩ := tab_exists C hm.1 hm.2 ho3 hl3 hga.1 hga.2 hgs hgl
    refine psd_cons (psd_setO 12 nd (pr_make G_reader hr (pad_cons (pd_v 1 rfl) (pad_cons (pd_dk (k := .lst ((rs.take k).map rlD ++ (rs.drop (k + 1)).map rlD)) (PR.dat (o := .lst ((rs.take k).map rlD ++ (rs.drop (k + 1)).map rlD)) (pr_catL (pd_dk (k := .lst (cutD (rs.map rlD) none (some (k : Int)))) (PR.dat (o := .lst (cutD (rs.map rlD) none (some (k : Int)))) (pr_sliceL (pd_v 3 rfl) pod_none (pod_some (pd_v 9 rfl)))) (by rw [hct])) (pd_dk (k := .lst (cutD (rs.map rlD) (some ((k : Int) + 1)) none)) (PR.dat (o := .lst (cutD (rs.map rlD) (some ((k : Int) + 1)) none)) (pr_sliceL (pd_v 3 rfl) (pod_some (pd_addI (pd_v 9 rfl) pd_int)) pod_none)) (by rw [hcd1])) (zz _ _ (by rw [List.length_take]; omega) (by rw [List.length_drop]; omega)))) (by rw [← List.map_append])) (pad_cons (pd_v 4 rfl) pad_nil))) (F_init.ok many ga (rs.take k ++ rs.drop (k + 1)) gl _ (many_good hm.1 hm.2) (pl1_lst _) (rules_pl2 ho3) (rules_good ho3 hl3) (spot_pl2 hgs.ok (by omega)) (goal_good hga.1 hga.2 hgs hgl) (by omega) hF3) (fun d o z => by cases z; rfl)) fun l_12 => ?_)
    refine psd_freeze 12 rfl ?_
    refine psd_cons (psd_if (k := false) (ptd_not (k := true) (ptd_val (pr_calln G_fewer hr7 (pad_cons (pd_v 8 rfl) (pad_cons (pd_v 12 rfl) (pad_cons (pd_v 5 rfl) pad_nil))) (F_lfewer.mk many _ _ R R3 rs _ _ _ W W3 Z Z3 qs t.rd t3.rd (tab_dec t3 t hs3) hqs' (by omega) (fun q _ v hv => tab_fewer t t3 hs3 q v hv))))) (fun z => nomatch z) (fun _ => psd_nil ?_))
    obtain ⟨ol, hol⟩ : ∃ l : List Nat, l = sg3 (cell ns 5) := ⟨_, rfl⟩
    have holo : Sgs ol := by rw [hol]; exact sgs_sg3 _
    obtain ⟨h1, h2, h3, holg, hn⟩ : ∃ h1 h2 h3, ol = [h1, h2, h3] ∧ (h1 ≠ h2 ∧ h1 ≠ h3 ∧ h2 ≠ h3) := ⟨_, _, _, hol, sg3_ne _⟩
    refine psd_cons (psd_set 11 nd (d := .lst (ol.map fun g => .str [g])) (by rw [hol]; exact PR.dat (o := .lst ((sg3 (cell ns 5)).map fun g => .str [g])) (pr_calln G_signs hr1 (pad_cons (pr_calln G_cell hr1 (pad_cons (pd_v 0 rfl) (pad_cons pd_int pad_nil)) (F_cell.mk ns 5)) pad_nil) (F_signs.mk _))) ?_)
    clear hol
    obtain ⟨φ, hφ⟩ : ∃ φ, φ = swap3 g1 g2 h1 h2 h3 := ⟨_, rfl⟩
    obtain ⟨ψ, hψ⟩ : ∃ ψ, ψ = swap3 h1 h2 g1 g2 g3 := ⟨_, rfl⟩
    have in3 : ∀ g ∈ sl, g = g1 ∨ g = g2 ∨ g = g3 := fun g hg => by
      rw [hslg] at hg
      simpa using hg
    have back : ∀ g ∈ sl, ψ (φ g) = g := fun g hg => by rw [hφ, hψ]; exact swap3_back hn (in3 g hg) gn
    have forth : ∀ g ∈ ol, φ (ψ g) = g := fun g hg => by
      rw [holg] at hg
      rw [hφ, hψ]
      exact swap3_back gn (by simpa using hg) hn
    have into : ∀ g, φ g ∈ ol := fun g => by
      rw [hφ, holg]
      unfold swap3
      split
      · simp
      · split <;> simp
    have hsgφ : ∀ l : List Nat, Sgs (l.map φ) := fun l c hc => by
      obtain ⟨g, _, rfl⟩ := List.mem_map.mp hc
      exact holo _ (into g)
    obtain ⟨kds, hkds⟩ : ∃ kds, kds = zipK (sl.map fun g => [g]) (ol.map fun g => .str [g]) := ⟨_, rfl⟩
    have hget : ∀ g ∈ sl, valD kds (.inr ⟨[g].toArray⟩) = some (.str [φ g]) := fun g hg => by
      rw [hkds, hφ, hslg, holg]
      exact names_get gn (in3 g hg)
    have hdg : ∀ g ∈ sl, dGet (.dk (kds.map (·.1)) (kds.map (·.2))) (.str [g]) = some (some (.str [φ g])) := fun g hg => by
      show some (valD ((kds.map (·.1)).zip (kds.map (·.2))) (.inr ⟨[g].toArray⟩)) = _
      rw [zip_keys, hget g hg]
    have hol3 : ol.length = 3 := by rw [holg]; rfl
    refine psd_cons (psd_setO 13 nd (o := .dk kds) (by rw [hkds]; exact pr_dictZ (ks := sl.map fun g => [g]) (ds := ol.map fun g => .str [g]) rfl Tx.b_dict Tx.b_zip (pd_dk (k := .lst (sl.map fun g => .str [g])) (pd_v 2 rfl) (by rw [List.map_map]; rfl)) (pd_v 11 rfl) (by rw [List.length_map, List.length_map, hsl3, hol3]) (by rw [List.length_map, hsl3]; decide)) fun l_13 => ?_)
    clear hkds hslg holg
    refine psd_freeze 13 rfl ?_
    refine psd_cons (psd_setLc 14 rfl nd (blkOk_by (N := ["_law_script", "_law_many", "_law_signs_here", "_law_rules_here", "_law_goal_here", "_law_spots", "_law_k", "_law_cell", "_law_reader", "_law_turn", "_law_rows", "_law_others", "_law_fewer_here", "_law_names", "_law_signed_here", "_law_rule_here", "_law_second", "_law_state", "_law_pile", "_law_weights_here", "_law_due", "_law_arrow"]) (sc := defScope s_law) (own := [("_law_rule_here", 15)]) (by decide +kernel)) (pid_list (pd_v 3 rfl)) (outs := rs.map fun r => rlD (renR φ r)) (by rw [List.length_map, List.length_map]) (by rw [List.length_map]; exact Nat.lt_of_le_of_lt hrl (by decide)) ?turn fun l_14 => ?_)
    case turn =>
      intro i d o e1 e2
      obtain ⟨r, hi, rfl, rfl⟩ := map_get2 e1 e2
      have hrm := List.mem_of_getElem? hi
      obtain ⟨i1, i2⟩ := hri r hrm
      have hpl := (hro r hrm).l
      exact ⟨[15], _, by simp, fun s0 H0 C cl fp => gd_name 15 nd, fun s0 H0 C cl fp => pd_tup (pad_cons (pd_ix (d1 := rlD r) (pd_v 15 rfl) pd_int rfl) (pad_cons (pd_dget (d1 := .str [r.g]) hu64 (pd_v 13 rfl) (pd_ix (d1 := rlD r) (pd_v 15 rfl) pd_int rfl) (hdg r.g i1)) (pad_cons (pd_ix (d1 := rlD r) (pd_v 15 rfl) pd_int rfl) (pad_cons (pr_calln G_signed hr1 (pad_cons (pd_ix (d1 := rlD r) (pd_v 15 rfl) pd_int rfl) (pad_cons (pd_v 13 rfl) pad_nil)) (F_lsigned.mk r.p kds φ (by omega) (fun g hg => hget g (i2 g hg)))) pad_nil))))⟩
    refine psd_freeze 14 rfl ?_
    have ho4 : ∀ r ∈ rs.map (renR φ), GoodR many r := fun r hr => by
      obtain ⟨r0, hr0, rfl⟩ := List.mem_map.mp hr
      exact renR_good (hro r0 hr0) (holo _ (into _)) (hsgφ _)
    have hl4 : (rs.map (renR φ)).length ≤ 12 := by rw [List.length_map]; exact hrl
    have hgs4 : Sgs (gl.map φ) := hsgφ gl
    have hgl4 : (gl.map φ).length ≤ 4 := by rw [List.length_map]; exact hgl
    obtain ⟨R4, W4, Z4, hR4, hF4, t4⟩ := tab_exists C hm.1 hm.2 ho4 hl4 hga.1 hga.2 hgs4 hgl4
    refine psd_cons (psd_setO 16 nd (pr_make G_reader hr (pad_cons (pd_v 1 rfl) (pad_cons (pd_dk (k := .lst (rs.map fun r => rlD (renR φ r))) (pd_v 14 rfl) (k' := .lst ((rs.map (renR φ)).map rlD)) (by rw [List.map_map]; rfl)) (pad_cons (pd_tup (pad_cons (pd_ix (d1 := spD (ga, gl)) (pd_v 4 rfl) pd_int rfl) (pad_cons (pr_calln G_signed hr1 (pad_cons (pd_ix (d1 := spD (ga, gl)) (pd_v 4 rfl) pd_int rfl) (pad_cons (pd_v 13 rfl) pad_nil)) (F_lsigned.mk gl kds φ (by omega) (fun g hg => hget g (hgi g hg)))) pad_nil))) pad_nil))) (F_init.ok many ga (rs.map (renR φ)) (gl.map φ) _ (many_good hm.1 hm.2) (pl1_lst _) (rules_pl2 ho4) (rules_good ho4 hl4) (spot_pl2 hgs4.ok (by omega)) (goal_good hga.1 hga.2 hgs4 hgl4) (by omega) hF4) (fun d o z => by cases z; rfl)) fun l_16 => ?_)
    refine psd_freeze 16 rfl ?_
    obtain ⟨eR, d1, d2⟩ := tab_renamed (ψ := ψ) t t4 (fun r hr => ⟨back _ (hri r hr).1, map_back fun g hg => back g ((hri r hr).2 g hg)⟩) (map_back fun g hg => back g (hgi g hg))
    subst eR
    have hend : endOf many ga (gl.map φ) = endOf many ga gl := by
      unfold endOf
      cases gl <;> simp
    refine psd_cons (psd_for (passes_of rfl) rfl (pid_list (pd_v 5 rfl)) (fun i Δ' => ∃ (e17 e18 : Option En), Δ' = [some (.imm (.scr ns)), some (.imm (.int many)), some (.imm (.lst (sl.map fun g => .str [g]))), some (.imm (.lst (rs.map rlD))), some (.imm (spD (ga, gl))), some (.imm (.lst (qs.map spD))), e6, e7, some (.imm (rdrD C (fs7 many rs (ownAs many ga gl gl.length) (R4 : Int) (endOf many ga gl) W Z))), some (.imm (.int (k : Int))), some (.imm (.lst (([rs.reverse, rs.drop k ++ rs.take k] : List (List Rl)).map fun l => .lst (l.map rlD)))), some (.imm (.lst (ol.map fun g => .str [g]))), some (.imm (rdrD C (fs7 many (rs.take k ++ rs.drop (k + 1)) (ownAs many ga gl gl.length) (R3 : Int) (endOf many ga gl) W3 Z3))), some (.imm (.dk (kds.map (·.1)) (kds.map (·.2)))), some (.imm (.lst (rs.map fun r => rlD (renR φ r)))), none, some (.imm (rdrD C (fs7 many (rs.map (renR φ)) (ownAs many ga (gl.map φ) (gl.map φ).length) (R4 : Int) (endOf many ga (gl.map φ)) W4 Z4))), e17, e18, none, none, none]) ⟨_, _, rfl⟩ (fun i d Δ' hd iv => ?_) (fun Δ' iv => ?_))
    · obtain ⟨e17, e18, rfl⟩ := iv
      obtain ⟨q, hi, rfl⟩ := map_get hd
      obtain ⟨q0, q1, q2, q3, q4⟩ := hqs q (List.mem_of_getElem? hi)
      refine ⟨_, _, (gd_tup rfl (gds_cons (gd_name 17 nd) (gds_cons (gd_name 18 nd) gds_nil))), ?_⟩
      have hle : leD W4 R4 (endOf many ga (gl.map φ)) (q.1, q.2.map φ) = leD W R4 (endOf many ga gl) q := by
        rw [hend]
        unfold leD
        rw [decR_read_eq t.nn t4.nn d1 d2 q.1 (endOf many ga gl) q.2 (map_back fun g hg => back g (q4 g hg))]
      refine psd_one (psd_if (k := false) (ptd_k (ptd_cmp (op_neD hu64) (nomark _) (pd_dk (pd_least G_least hr6 (q := (q.1, q.2.map φ)) (pd_v 16 rfl) (pd_tup (pad_cons (pd_v 17 rfl) (pad_cons (pr_calln G_signed hr1 (pad_cons (pd_v 18 rfl) (pad_cons (pd_v 13 rfl) pad_nil)) (F_lsigned.mk q.2 kds φ (by omega) (fun g hg => hget g (q4 g hg)))) pad_nil))) hR4 q0 q1 (hsgφ _) (by show (q.2.map φ).length ≤ 1000; rw [List.length_map]; omega)) hle) (pd_least G_least hr6 (q := q) (pd_v 8 rfl) (pd_tup (pad_cons (pd_v 17 rfl) (pad_cons (pd_v 18 rfl) pad_nil))) hR q0 q1 q2 (by omega)) (opd_neD (n := 1) (by decide) gd_leD gd_leD)) (by rw [deq_refl 1 gd_leD]; rfl)) (fun z => nomatch z) (fun _ => psd_nil ?_))
      exact ⟨_, _, rfl⟩
    obtain ⟨e17, e18, rfl⟩ := iv
    refine psd_cons (psd_set 19 nd (d := wD (wOf W)) (PR.dat (o := .dt (wkd (wOf W))) (pr_calln G_weights hr5 (pad_cons (pd_v 8 rfl) pad_nil) (.mk many _ (R4 : Int) rs _ W Z t.rd.g t.rd.l))) ?_)
    refine psd_cons (psd_setO 20 nd pr_dT fun l_20 => ?_)
    have hsW : ∀ a ∈ W.map (·.1), a.2.1 ∈ sl := tab_signs t.M hgi (fun r hr => (hri r hr).1)
    have hsW4 : ∀ a ∈ W4.map (·.1), a.2.1 ∈ ol := tab_signs t4.M (fun c hc => by obtain ⟨g, _, rfl⟩ := List.mem_map.mp hc; exact into g) (fun r hr => by obtain ⟨r0, _, rfl⟩ := List.mem_map.mp hr; exact into _)
    have hwl := wOf_len W
    have hWl1 := t.rd.l
    have hkeyW : ∀ p ∈ wOf W, p.1.2.1 ∈ sl := fun p hp => hsW _ (lk_in.mpr (by rw [← wOf_get, lk_of_mem' (wOf_nodup t.G.nd) hp]; rfl))
    have hdl : ∀ j, (wkd (dueOf φ ((wOf W).take j))).length < sizeLine := fun j => by
      have hlen : ∀ (A acc : List (Arw × Int)), (A.foldl (fun acc p => putG acc (ren φ p.1) p.2) acc).length ≤ acc.length + A.length := fun A => by
        induction A with
        | nil => exact fun acc => Nat.le_refl _
        | cons p A ih =>
          intro acc
          have := ih (putG acc (ren φ p.1) p.2)
          have := putG_len acc (ren φ p.1) p.2
          rw [List.foldl_cons, List.length_cons]
          omega
      have := hlen ((wOf W).take j) []
      rw [List.length_nil, List.length_take] at this
      show (tabD akey Dt.int (dueOf φ ((wOf W).take j))).length < _
      rw [tab_len]
      exact Nat.lt_of_le_of_lt (m := 1000) (by unfold dueOf; omega) (by decide)
    refine psd_cons (psd_forT (ks := (wkd (wOf W)).map (·.1)) (ds := (wkd (wOf W)).map (·.2)) 19 (passes_of rfl) rfl rfl (fun j Δ' => ∃ (e21 : Option En), Δ' = [some (.imm (.scr ns)), some (.imm (.int many)), some (.imm (.lst (sl.map fun g => .str [g]))), some (.imm (.lst (rs.map rlD))), some (.imm (spD (ga, gl))), some (.imm (.lst (qs.map spD))), e6, e7, some (.imm (rdrD C (fs7 many rs (ownAs many ga gl gl.length) (R4 : Int) (endOf many ga gl) W Z))), some (.imm (.int (k : Int))), some (.imm (.lst (([rs.reverse, rs.drop k ++ rs.take k] : List (List Rl)).map fun l => .lst (l.map rlD)))), some (.imm (.lst (ol.map fun g => .str [g]))), some (.imm (rdrD C (fs7 many (rs.take k ++ rs.drop (k + 1)) (ownAs many ga gl gl.length) (R3 : Int) (endOf many ga gl) W3 Z3))), some (.imm (.dk (kds.map (·.1)) (kds.map (·.2)))), some (.imm (.lst (rs.map fun r => rlD (renR φ r)))), none, some (.imm (rdrD C (fs7 many (rs.map (renR φ)) (ownAs many ga (gl.map φ) (gl.map φ).length) (R4 : Int) (endOf many ga (gl.map φ)) W4 Z4))), e17, e18, some (.imm (wD (wOf W))), some (.own l_20 false (.dt (wkd (dueOf φ ((wOf W).take j))))), e21]) ⟨none, rfl⟩ (fun j kk Δ' hkk iv => ?_) (fun Δ' iv => ?_) (fun _ _ h => h))
    · obtain ⟨e21, rfl⟩ := iv
      rw [show (wkd (wOf W)).map (·.1) = (wOf W).map fun p => akey p.1 from tab_keys (wOf W), List.getElem?_map] at hkk
      cases hp : (wOf W)[j]? with
      | none => rw [hp] at hkk; cases hkk
      | some p =>
        rw [hp] at hkk
        cases hkk
        have hpm := List.mem_of_getElem? hp
        have hsg := hkeyW p hpm
        have g1 : dGet (wD (wOf W)) (adt p.1) = some (some (.int p.2)) := by rw [wD_get, lk_of_mem' (wOf_nodup t.G.nd) hpm]; rfl
        have hput : putD (wkd (dueOf φ ((wOf W).take j))) (akey (ren φ p.1)) (.int p.2) = wkd (dueOf φ ((wOf W).take (j + 1))) := by
          rw [dueOf_take hp]
          exact putD_tab (fun _ _ => akey_inj) (ren φ p.1) p.2 _
        rw [show tkeyD (akey p.1) = adt p.1 from rfl]
        refine ⟨_, _, (gd_name 21 nd), ?_⟩
        refine psd_one (psd_putT 20 (k := akey (ren φ p.1)) hu64 rfl (d1 := adt (ren φ p.1)) (pd_tup (pad_cons (pd_ix (d1 := adt p.1) (pd_v 21 rfl) pd_int rfl) (pad_cons (pd_dget (d1 := .str [p.1.2.1]) hu64 (pd_v 13 rfl) (pd_ix (d1 := adt p.1) (pd_v 21 rfl) pd_int rfl) (hdg _ hsg)) (pad_cons (pd_ix (d1 := adt p.1) (pd_v 21 rfl) pd_int rfl) pad_nil)))) (d2 := .int p.2) (pd_dget (d1 := adt p.1) hu64 (pd_v 19 rfl) (pd_v 21 rfl) g1) rfl (hdl j) ?_)
        rw [hput]
        exact ⟨_, rfl⟩
    obtain ⟨e21, rfl⟩ := iv
    have ej : ((wkd (wOf W)).map (·.1)).length = (wOf W).length := by
      rw [List.length_map]
      exact tab_len _
    rw [ej, List.take_length]
    obtain ⟨f1, f2⟩ := due_eq t.G.nd t4.G.nd (fun a ha => back _ (hsW a ha)) (fun a ha => forth _ (hsW4 a ha)) d1 d2
    exact psd_one (psd_ret (pr_view 20 1 rfl (pd_cmp (op_eqDT hu64) (nomark _) (PR.dat (o := .dt (wkd (wOf W4))) (pr_calln G_weights hr5 (pad_cons (pd_v 16 rfl) pad_nil) (.mk many _ (R4 : Int) (rs.map (renR φ)) _ W4 Z4 t4.rd.g t4.rd.l))) (pd_v 20 rfl) (opd_eqW (A := wOf W4) (B := dueOf φ (wOf W)) f1 f2)) rfl) rfl)
end
end K14

set_option Elab.async false
set_option linter.all false
set_option maxRecDepth 100000
set_option maxHeartbeats 4000000
namespace K14
open PySem PySem.Spec L2 DL LM
theorem all_mk {l : PySem.W.OpenLaw} {w : World} {K : PySem.W.Frag} {h : Heap} {mg : Str → Option Value} {fa f1 f2 f3 f4 f5 f6 f7 f8 f9 f10 f11 f12 f13 f14 f15 f16 f17 f18 f19 f20 f21 f22 f23 f24 f25 f26 f27 f28 f29 f30 f31 f32 f33 f34 f35 f36 f37 f38 f39 f40 C BM BS NA : Addr} (X : K.In h) (G : h.Ns mainGlobals mg) (hfa : mg "law" = some (.ref fa)) (tb : ∀ y ∈ (["is_pile", "is_rule_list"] : List Str), TabAt h mg y)
    {od1 od2 od3 od4 od5 od6 od7 od8 od9 od10 od11 od12 od13 od14 od15 od16 od17 od18 od19 od20 od21 od22 od23 od24 od25 od26 od27 od28 od29 od30 od31 od32 od33 od34 od35 od36 od37 od38 od39 od40 an1 an2 an3 an4 an5 an6 an7 an8 an9 an10 an11 an12 an13 an14 an15 an16 an17 an18 an19 an20 an21 an22 an23 an24 an25 an26 an27 an28 an29 an30 an31 an32 an33 an34 an35 an36 an37 an38 an39 an40 : Option Addr} {sl1 sl2 sl3 sl4 sl5 sl6 sl7 sl8 sl9 sl10 sl11 sl12 sl13 sl14 sl15 sl16 sl17 sl18 sl19 sl20 sl21 sl22 sl23 sl24 sl25 sl26 sl27 sl28 sl29 sl30 sl31 sl32 sl33 sl34 sl35 sl36 sl37 sl38 sl39 sl40 : Array (Option Value)} {oc1 oc2 oc3 oc4 oc5 oc6 oc7 oc8 oc9 oc10 oc11 oc12 oc13 oc14 oc15 oc16 oc17 oc18 oc19 oc20 oc21 oc22 oc23 oc24 oc25 oc26 oc27 oc28 oc29 oc30 oc31 oc32 oc33 oc34 oc35 oc36 oc37 oc38 oc39 oc40 kV1 kV2 kV3 kV4 kV5 kV6 kV7 kV8 kV9 kV10 kV11 kV12 kV13 kV14 kV15 kV16 kV17 kV18 kV19 kV20 kV21 kV22 kV23 kV24 kV25 kV26 kV27 kV28 kV29 kV30 kV31 kV32 kV33 kV34 kV35 kV36 kV37 kV38 kV39 kV40 dc1 dc2 dc3 dc4 dc5 dc6 dc7 dc8 dc9 dc10 dc11 dc12 dc13 dc14 dc15 dc16 dc17 dc18 dc19 dc20 dc21 dc22 dc23 dc24 dc25 dc26 dc27 dc28 dc29 dc30 dc31 dc32 dc33 dc34 dc35 dc36 dc37 dc38 dc39 dc40 pm1 pm2 pm3 pm4 pm5 pm6 pm7 pm8 pm9 pm10 pm11 pm12 pm13 pm14 pm15 pm16 pm17 pm18 pm19 pm20 pm21 pm22 pm23 pm24 pm25 pm26 pm27 pm28 pm29 pm30 pm31 pm32 pm33 pm34 pm35 pm36 pm37 pm38 pm39 pm40 cd1 cd2 cd3 cd4 cd5 cd6 cd7 cd8 cd9 cd10 cd11 cd12 cd13 cd14 cd15 cd16 cd17 cd18 cd19 cd20 cd21 cd22 cd23 cd24 cd25 cd26 cd27 cd28 cd29 cd30 cd31 cd32 cd33 cd34 cd35 cd36 cd37 cd38 cd39 cd40 ct1 ct2 ct3 ct4 ct5 ct6 ct7 ct8 ct9 ct10 ct11 ct12 ct13 ct14 ct15 ct16 ct17 ct18 ct19 ct20 ct21 ct22 ct23 ct24 ct25 ct26 ct27 ct28 ct29 ct30 ct31 ct32 ct33 ct34 ct35 ct36 ct37 ct38 ct39 ct40 : Value} {t1 t2 t3 : Tok}
    (aC : PySem.W.nsIn K mainGlobals "Reader" = some (some (.ref C)))
    (aBM : PySem.W.nsIn K mainGlobals "BadMachine" = some (some (.ref BM)))
    (aBS : PySem.W.nsIn K mainGlobals "BadSpot" = some (some (.ref BS)))
    (aNA : PySem.W.nsIn K mainGlobals "NoArrow" = some (some (.ref NA)))
    (a1 : PySem.W.nsIn K mainGlobals "is_number" = some (some (.ref f1))) (l1 : K.lookup f1 = some ⟨oc1, od1, .func (PySem.W.fnOf "is_number" "is_number" (defArgs (top 19)) (defBody (top 19)) (defScope (top 19)) .none kV1 dc1 pm1 an1 cd1 ct1), sl1⟩) (c1 : PySem.W.codeIn K cd1 "is_number" = true) (k1 : PySem.W.keepIn K (.ref f1) = true)
    (a2 : PySem.W.nsIn K mainGlobals "is_state" = some (some (.ref f2))) (l2 : K.lookup f2 = some ⟨oc2, od2, .func (PySem.W.fnOf "is_state" "is_state" (defArgs (top 20)) (defBody (top 20)) (defScope (top 20)) .none kV2 dc2 pm2 an2 cd2 ct2), sl2⟩) (c2 : PySem.W.codeIn K cd2 "is_state" = true) (k2 : PySem.W.keepIn K (.ref f2) = true)
    (a3 : PySem.W.nsIn K mainGlobals "is_sign" = some (some (.ref f3))) (l3 : K.lookup f3 = some ⟨oc3, od3, .func (PySem.W.fnOf "is_sign" "is_sign" (defArgs (top 21)) (defBody (top 21)) (defScope (top 21)) .none kV3 dc3 pm3 an3 cd3 ct3), sl3⟩) (c3 : PySem.W.codeIn K cd3 "is_sign" = true) (k3 : PySem.W.keepIn K (.ref f3) = true)
    (a4 : PySem.W.nsIn K mainGlobals "is_pile" = some (some (.ref f4))) (l4 : K.lookup f4 = some ⟨oc4, od4, .func (PySem.W.fnOf "is_pile" "is_pile" (defArgs (top 22)) (defBody (top 22)) (defScope (top 22)) .none kV4 dc4 pm4 an4 cd4 ct4), sl4⟩) (c4 : PySem.W.codeIn K cd4 "is_pile" = true) (k4 : PySem.W.keepIn K (.ref f4) = true)
    (a5 : PySem.W.nsIn K mainGlobals "is_tuple" = some (some (.ref f5))) (l5 : K.lookup f5 = some ⟨oc5, od5, .func (PySem.W.fnOf "is_tuple" "is_tuple" (defArgs (top 23)) (defBody (top 23)) (defScope (top 23)) .none kV5 dc5 pm5 an5 cd5 ct5), sl5⟩) (c5 : PySem.W.codeIn K cd5 "is_tuple" = true) (k5 : PySem.W.keepIn K (.ref f5) = true)
    (a6 : PySem.W.nsIn K mainGlobals "is_rule" = some (some (.ref f6))) (l6 : K.lookup f6 = some ⟨oc6, od6, .func (PySem.W.fnOf "is_rule" "is_rule" (defArgs (top 24)) (defBody (top 24)) (defScope (top 24)) .none kV6 dc6 pm6 an6 cd6 ct6), sl6⟩) (c6 : PySem.W.codeIn K cd6 "is_rule" = true) (k6 : PySem.W.keepIn K (.ref f6) = true)
    (a7 : PySem.W.nsIn K mainGlobals "is_spot" = some (some (.ref f7))) (l7 : K.lookup f7 = some ⟨oc7, od7, .func (PySem.W.fnOf "is_spot" "is_spot" (defArgs (top 25)) (defBody (top 25)) (defScope (top 25)) .none kV7 dc7 pm7 an7 cd7 ct7), sl7⟩) (c7 : PySem.W.codeIn K cd7 "is_spot" = true) (k7 : PySem.W.keepIn K (.ref f7) = true)
    (a8 : PySem.W.nsIn K mainGlobals "keep_least" = some (some (.ref f8))) (l8 : K.lookup f8 = some ⟨oc8, od8, .func (PySem.W.fnOf "keep_least" "keep_least" (defArgs (top 5)) (defBody (top 5)) (defScope (top 5)) .none kV8 dc8 pm8 an8 cd8 ct8), sl8⟩) (c8 : PySem.W.codeIn K cd8 "keep_least" = true) (k8 : PySem.W.keepIn K (.ref f8) = true)
    (a9 : PySem.W.nsIn K mainGlobals "read_on" = some (some (.ref f9))) (l9 : K.lookup f9 = some ⟨oc9, od9, .func (PySem.W.fnOf "read_on" "read_on" (defArgs (top 7)) (defBody (top 7)) (defScope (top 7)) .none kV9 dc9 pm9 an9 cd9 ct9), sl9⟩) (c9 : PySem.W.codeIn K cd9 "read_on" = true) (k9 : PySem.W.keepIn K (.ref f9) = true)
    (a10 : PySem.W.nsIn K mainGlobals "read_from" = some (some (.ref f10))) (l10 : K.lookup f10 = some ⟨oc10, od10, .func (PySem.W.fnOf "read_from" "read_from" (defArgs (top 6)) (defBody (top 6)) (defScope (top 6)) .none kV10 dc10 pm10 an10 cd10 ct10), sl10⟩) (c10 : PySem.W.codeIn K cd10 "read_from" = true) (k10 : PySem.W.keepIn K (.ref f10) = true)
    (a11 : PySem.W.nsIn K mainGlobals "bring_arrows" = some (some (.ref f11))) (l11 : K.lookup f11 = some ⟨oc11, od11, .func (PySem.W.fnOf "bring_arrows" "bring_arrows" (defArgs (top 4)) (defBody (top 4)) (defScope (top 4)) .none kV11 dc11 pm11 an11 cd11 ct11), sl11⟩) (c11 : PySem.W.codeIn K cd11 "bring_arrows" = true) (k11 : PySem.W.keepIn K (.ref f11) = true)
    (a12 : PySem.W.nsIn K mainGlobals "arrow_weights" = some (some (.ref f12))) (l12 : K.lookup f12 = some ⟨oc12, od12, .func (PySem.W.fnOf "arrow_weights" "arrow_weights" (defArgs (top 3)) (defBody (top 3)) (defScope (top 3)) .none kV12 dc12 pm12 an12 cd12 ct12), sl12⟩) (c12 : PySem.W.codeIn K cd12 "arrow_weights" = true) (k12 : PySem.W.keepIn K (.ref f12) = true)
    (a13 : PySem.W.nsIn K mainGlobals "own_arrows" = some (some (.ref f13))) (l13 : K.lookup f13 = some ⟨oc13, od13, .func (PySem.W.fnOf "own_arrows" "own_arrows" (defArgs (top 2)) (defBody (top 2)) (defScope (top 2)) .none kV13 dc13 pm13 an13 cd13 ct13), sl13⟩) (c13 : PySem.W.codeIn K cd13 "own_arrows" = true) (k13 : PySem.W.keepIn K (.ref f13) = true)
    (a14 : PySem.W.nsIn K mainGlobals "row_ahead" = some (some (.ref f14))) (l14 : K.lookup f14 = some ⟨oc14, od14, .func (PySem.W.fnOf "row_ahead" "row_ahead" (defArgs (top 10)) (defBody (top 10)) (defScope (top 10)) .none kV14 dc14 pm14 an14 cd14 ct14), sl14⟩) (c14 : PySem.W.codeIn K cd14 "row_ahead" = true) (k14 : PySem.W.keepIn K (.ref f14) = true)
    (a15 : PySem.W.nsIn K mainGlobals "rows_to" = some (some (.ref f15))) (l15 : K.lookup f15 = some ⟨oc15, od15, .func (PySem.W.fnOf "rows_to" "rows_to" (defArgs (top 9)) (defBody (top 9)) (defScope (top 9)) .none kV15 dc15 pm15 an15 cd15 ct15), sl15⟩) (c15 : PySem.W.codeIn K cd15 "rows_to" = true) (k15 : PySem.W.keepIn K (.ref f15) = true)
    (a16 : PySem.W.nsIn K mainGlobals "least_way" = some (some (.ref f16))) (l16 : K.lookup f16 = some ⟨oc16, od16, .func (PySem.W.fnOf "least_way" "least_way" (defArgs (top 8)) (defBody (top 8)) (defScope (top 8)) .none kV16 dc16 pm16 an16 cd16 ct16), sl16⟩) (c16 : PySem.W.codeIn K cd16 "least_way" = true) (k16 : PySem.W.keepIn K (.ref f16) = true)
    (a17 : PySem.W.nsIn K mainGlobals "arrow_reasons" = some (some (.ref f17))) (l17 : K.lookup f17 = some ⟨oc17, od17, .func (PySem.W.fnOf "arrow_reasons" "arrow_reasons" (defArgs (top 11)) (defBody (top 11)) (defScope (top 11)) .none kV17 dc17 pm17 an17 cd17 ct17), sl17⟩) (c17 : PySem.W.codeIn K cd17 "arrow_reasons" = true) (k17 : PySem.W.keepIn K (.ref f17) = true)
    (a18 : PySem.W.nsIn K mainGlobals "is_many" = some (some (.ref f18))) (l18 : K.lookup f18 = some ⟨oc18, od18, .func (PySem.W.fnOf "is_many" "is_many" (defArgs (top 30)) (defBody (top 30)) (defScope (top 30)) .none kV18 dc18 pm18 an18 cd18 ct18), sl18⟩) (c18 : PySem.W.codeIn K cd18 "is_many" = true) (k18 : PySem.W.keepIn K (.ref f18) = true)
    (a19 : PySem.W.nsIn K mainGlobals "is_rule_list" = some (some (.ref f19))) (l19 : K.lookup f19 = some ⟨oc19, od19, .func (PySem.W.fnOf "is_rule_list" "is_rule_list" (defArgs (top 31)) (defBody (top 31)) (defScope (top 31)) .none kV19 dc19 pm19 an19 cd19 ct19), sl19⟩) (c19 : PySem.W.codeIn K cd19 "is_rule_list" = true) (k19 : PySem.W.keepIn K (.ref f19) = true)
    (a20 : PySem.W.nsIn K mainGlobals "is_goal" = some (some (.ref f20))) (l20 : K.lookup f20 = some ⟨oc20, od20, .func (PySem.W.fnOf "is_goal" "is_goal" (defArgs (top 32)) (defBody (top 32)) (defScope (top 32)) .none kV20 dc20 pm20 an20 cd20 ct20), sl20⟩) (c20 : PySem.W.codeIn K cd20 "is_goal" = true) (k20 : PySem.W.keepIn K (.ref f20) = true)
    (a21 : PySem.W.findIn K (.ref C) "_find_arrows" = some (some (.ref f21))) (i21 : PySem.W.isFn K (.ref f21) = true) (l21 : K.lookup f21 = some ⟨oc21, od21, .func (PySem.W.fnOf "_find_arrows" "Reader._find_arrows" (defArgs (meth 1)) (defBody (meth 1)) (defScope (meth 1)) .none kV21 dc21 pm21 an21 cd21 ct21), sl21⟩) (c21 : PySem.W.codeIn K cd21 "Reader._find_arrows" = true) (k21 : PySem.W.keepIn K (.ref f21) = true)
    (a22 : PySem.W.findIn K (.ref C) "__init__" = some (some (.ref f22))) (i22 : PySem.W.isFn K (.ref f22) = true) (l22 : K.lookup f22 = some ⟨oc22, od22, .func (PySem.W.fnOf "__init__" "Reader.__init__" (defArgs (meth 0)) (defBody (meth 0)) (defScope (meth 0)) .none kV22 dc22 pm22 an22 cd22 ct22), sl22⟩) (c22 : PySem.W.codeIn K cd22 "Reader.__init__" = true) (k22 : PySem.W.keepIn K (.ref f22) = true)
    (a23 : PySem.W.nsIn K mainGlobals "is_arrow" = some (some (.ref f23))) (l23 : K.lookup f23 = some ⟨oc23, od23, .func (PySem.W.fnOf "is_arrow" "is_arrow" (defArgs (top 33)) (defBody (top 33)) (defScope (top 33)) .none kV23 dc23 pm23 an23 cd23 ct23), sl23⟩) (c23 : PySem.W.codeIn K cd23 "is_arrow" = true) (k23 : PySem.W.keepIn K (.ref f23) = true)
    (a24 : PySem.W.findIn K (.ref C) "_check_arrow" = some (some (.ref f24))) (i24 : PySem.W.isFn K (.ref f24) = true) (l24 : K.lookup f24 = some ⟨oc24, od24, .func (PySem.W.fnOf "_check_arrow" "Reader._check_arrow" (defArgs (meth 2)) (defBody (meth 2)) (defScope (meth 2)) .none kV24 dc24 pm24 an24 cd24 ct24), sl24⟩) (c24 : PySem.W.codeIn K cd24 "Reader._check_arrow" = true) (k24 : PySem.W.keepIn K (.ref f24) = true)
    (a25 : PySem.W.findIn K (.ref C) "weight" = some (some (.ref f25))) (i25 : PySem.W.isFn K (.ref f25) = true) (l25 : K.lookup f25 = some ⟨oc25, od25, .func (PySem.W.fnOf "weight" "Reader.weight" (defArgs (meth 8)) (defBody (meth 8)) (defScope (meth 8)) .none kV25 dc25 pm25 an25 cd25 ct25), sl25⟩) (c25 : PySem.W.codeIn K cd25 "Reader.weight" = true) (k25 : PySem.W.keepIn K (.ref f25) = true)
    (a26 : PySem.W.findIn K (.ref C) "arrows" = some (some (.ref f26))) (i26 : PySem.W.isFn K (.ref f26) = true) (l26 : K.lookup f26 = some ⟨oc26, od26, .func (PySem.W.fnOf "arrows" "Reader.arrows" (defArgs (meth 7)) (defBody (meth 7)) (defScope (meth 7)) .none kV26 dc26 pm26 an26 cd26 ct26), sl26⟩) (c26 : PySem.W.codeIn K cd26 "Reader.arrows" = true) (k26 : PySem.W.keepIn K (.ref f26) = true)
    (a27 : PySem.W.findIn K (.ref C) "_check_spot" = some (some (.ref f27))) (i27 : PySem.W.isFn K (.ref f27) = true) (l27 : K.lookup f27 = some ⟨oc27, od27, .func (PySem.W.fnOf "_check_spot" "Reader._check_spot" (defArgs (meth 3)) (defBody (meth 3)) (defScope (meth 3)) .none kV27 dc27 pm27 an27 cd27 ct27), sl27⟩) (c27 : PySem.W.codeIn K cd27 "Reader._check_spot" = true) (k27 : PySem.W.keepIn K (.ref f27) = true)
    (a28 : PySem.W.findIn K (.ref C) "least" = some (some (.ref f28))) (i28 : PySem.W.isFn K (.ref f28) = true) (l28 : K.lookup f28 = some ⟨oc28, od28, .func (PySem.W.fnOf "least" "Reader.least" (defArgs (meth 10)) (defBody (meth 10)) (defScope (meth 10)) .none kV28 dc28 pm28 an28 cd28 ct28), sl28⟩) (c28 : PySem.W.codeIn K cd28 "Reader.least" = true) (k28 : PySem.W.keepIn K (.ref f28) = true)
    (a29 : PySem.W.nsIn K mainGlobals "_law_cell_at" = some (some (.ref f29))) (l29 : K.lookup f29 = some ⟨oc29, od29, .func (PySem.W.fnOf "_law_cell_at" "_law_cell_at" (defArgs (top 36)) (defBody (top 36)) (defScope (top 36)) .none kV29 dc29 pm29 an29 cd29 ct29), sl29⟩) (c29 : PySem.W.codeIn K cd29 "_law_cell_at" = true) (k29 : PySem.W.keepIn K (.ref f29) = true)
    (a30 : PySem.W.nsIn K mainGlobals "_law_signs" = some (some (.ref f30))) (l30 : K.lookup f30 = some ⟨oc30, od30, .func (PySem.W.fnOf "_law_signs" "_law_signs" (defArgs (top 37)) (defBody (top 37)) (defScope (top 37)) .none kV30 dc30 pm30 an30 cd30 ct30), sl30⟩) (c30 : PySem.W.codeIn K cd30 "_law_signs" = true) (k30 : PySem.W.keepIn K (.ref f30) = true)
    (a31 : PySem.W.nsIn K mainGlobals "_law_mixed" = some (some (.ref f31))) (l31 : K.lookup f31 = some ⟨oc31, od31, .func (PySem.W.fnOf "_law_mixed" "_law_mixed" (defArgs (top 38)) (defBody (top 38)) (defScope (top 38)) .none kV31 dc31 pm31 an31 cd31 ct31), sl31⟩) (c31 : PySem.W.codeIn K cd31 "_law_mixed" = true) (k31 : PySem.W.keepIn K (.ref f31) = true)
    (a32 : PySem.W.nsIn K mainGlobals "_law_rule" = some (some (.ref f32))) (l32 : K.lookup f32 = some ⟨oc32, od32, .func (PySem.W.fnOf "_law_rule" "_law_rule" (defArgs (top 39)) (defBody (top 39)) (defScope (top 39)) .none kV32 dc32 pm32 an32 cd32 ct32), sl32⟩) (c32 : PySem.W.codeIn K cd32 "_law_rule" = true) (k32 : PySem.W.keepIn K (.ref f32) = true)
    (a33 : PySem.W.nsIn K mainGlobals "_law_rules" = some (some (.ref f33))) (l33 : K.lookup f33 = some ⟨oc33, od33, .func (PySem.W.fnOf "_law_rules" "_law_rules" (defArgs (top 40)) (defBody (top 40)) (defScope (top 40)) .none kV33 dc33 pm33 an33 cd33 ct33), sl33⟩) (c33 : PySem.W.codeIn K cd33 "_law_rules" = true) (k33 : PySem.W.keepIn K (.ref f33) = true)
    (a34 : PySem.W.nsIn K mainGlobals "_law_goal" = some (some (.ref f34))) (l34 : K.lookup f34 = some ⟨oc34, od34, .func (PySem.W.fnOf "_law_goal" "_law_goal" (defArgs (top 41)) (defBody (top 41)) (defScope (top 41)) .none kV34 dc34 pm34 an34 cd34 ct34), sl34⟩) (c34 : PySem.W.codeIn K cd34 "_law_goal" = true) (k34 : PySem.W.keepIn K (.ref f34) = true)
    (a35 : PySem.W.nsIn K mainGlobals "_law_spot" = some (some (.ref f35))) (l35 : K.lookup f35 = some ⟨oc35, od35, .func (PySem.W.fnOf "_law_spot" "_law_spot" (defArgs (top 42)) (defBody (top 42)) (defScope (top 42)) .none kV35 dc35 pm35 an35 cd35 ct35), sl35⟩) (c35 : PySem.W.codeIn K cd35 "_law_spot" = true) (k35 : PySem.W.keepIn K (.ref f35) = true)
    (a36 : PySem.W.nsIn K mainGlobals "_law_weights" = some (some (.ref f36))) (l36 : K.lookup f36 = some ⟨oc36, od36, .func (PySem.W.fnOf "_law_weights" "_law_weights" (defArgs (top 43)) (defBody (top 43)) (defScope (top 43)) .none kV36 dc36 pm36 an36 cd36 ct36), sl36⟩) (c36 : PySem.W.codeIn K cd36 "_law_weights" = true) (k36 : PySem.W.keepIn K (.ref f36) = true)
    (a37 : PySem.W.nsIn K mainGlobals "_law_signed" = some (some (.ref f37))) (l37 : K.lookup f37 = some ⟨oc37, od37, .func (PySem.W.fnOf "_law_signed" "_law_signed" (defArgs (top 44)) (defBody (top 44)) (defScope (top 44)) .none kV37 dc37 pm37 an37 cd37 ct37), sl37⟩) (c37 : PySem.W.codeIn K cd37 "_law_signed" = true) (k37 : PySem.W.keepIn K (.ref f37) = true)
    (a38 : PySem.W.nsIn K mainGlobals "_law_alike" = some (some (.ref f38))) (l38 : K.lookup f38 = some ⟨oc38, od38, .func (PySem.W.fnOf "_law_alike" "_law_alike" (defArgs (top 45)) (defBody (top 45)) (defScope (top 45)) .none kV38 dc38 pm38 an38 cd38 ct38), sl38⟩) (c38 : PySem.W.codeIn K cd38 "_law_alike" = true) (k38 : PySem.W.keepIn K (.ref f38) = true)
    (a39 : PySem.W.nsIn K mainGlobals "_law_fewer" = some (some (.ref f39))) (l39 : K.lookup f39 = some ⟨oc39, od39, .func (PySem.W.fnOf "_law_fewer" "_law_fewer" (defArgs (top 46)) (defBody (top 46)) (defScope (top 46)) .none kV39 dc39 pm39 an39 cd39 ct39), sl39⟩) (c39 : PySem.W.codeIn K cd39 "_law_fewer" = true) (k39 : PySem.W.keepIn K (.ref f39) = true)
    (a40 : PySem.W.nsIn K mainGlobals "law" = some (some (.ref f40))) (l40 : K.lookup f40 = some ⟨oc40, od40, .func (PySem.W.fnOf "law" "law" (defArgs (top 47)) (defBody (top 47)) (defScope (top 47)) .none kV40 dc40 pm40 an40 cd40 ct40), sl40⟩) (c40 : PySem.W.codeIn K cd40 "law" = true) (k40 : PySem.W.keepIn K (.ref f40) = true)
    (rpg : PySem.W.plainGet K C Str.empty = true)
    (rhd : PySem.W.hasDictIn K C = true)
    (rpo : PySem.W.plainOver K C = true)
    (rsa : PySem.W.findIn K (.ref C) "__setattr__" = some (some (.builtin "object.__setattr__")))
    (rmk : PySem.W.makesIn K C = true)
    (rkc : PySem.W.keepIn K (.ref C) = true)
    (rn0 : PySem.W.findIn K (.ref C) "_many" = some none)
    (rn1 : PySem.W.findIn K (.ref C) "_rules" = some none)
    (rn2 : PySem.W.findIn K (.ref C) "_own" = some none)
    (rn3 : PySem.W.findIn K (.ref C) "_rooms" = some none)
    (rn4 : PySem.W.findIn K (.ref C) "_end" = some none)
    (rn5 : PySem.W.findIn K (.ref C) "_weights" = some none)
    (rn6 : PySem.W.findIn K (.ref C) "_reasons" = some none)
    (eBMx : PySem.W.excIn K BM [.type "ValueError", .type "Exception", .type "BaseException", .type "object"] "ValueError.__new__" = true)
    (eBMk : PySem.W.keepIn K (.ref BM) = true)
    (eBMb : PySem.W.subIn K (.ref BM) (.type "BaseException") = some true)
    (eBMt : PySem.W.typeIn K (.ref BM) = some (.type "type"))
    (eBSx : PySem.W.excIn K BS [.type "ValueError", .type "Exception", .type "BaseException", .type "object"] "ValueError.__new__" = true)
    (eBSk : PySem.W.keepIn K (.ref BS) = true)
    (eBSb : PySem.W.subIn K (.ref BS) (.type "BaseException") = some true)
    (eBSt : PySem.W.typeIn K (.ref BS) = some (.type "type"))
    (eNAx : PySem.W.excIn K NA [.type "ValueError", .type "Exception", .type "BaseException", .type "object"] "ValueError.__new__" = true)
    (eNAk : PySem.W.keepIn K (.ref NA) = true)
    (eNAb : PySem.W.subIn K (.ref NA) (.type "BaseException") = some true)
    (eNAt : PySem.W.typeIn K (.ref NA) = some (.type "type"))
    (z1 : PySem.W.nsIn K mainGlobals "len" = some none)
    (z2 : PySem.W.nsIn K mainGlobals "range" = some none)
    (z3 : PySem.W.nsIn K mainGlobals "enumerate" = some none)
    (z4 : PySem.W.nsIn K mainGlobals "reversed" = some none)
    (z5 : PySem.W.nsIn K mainGlobals "isinstance" = some none)
    (z6 : PySem.W.nsIn K mainGlobals "list" = some none)
    (z7 : PySem.W.nsIn K mainGlobals "tuple" = some none)
    (z8 : PySem.W.nsIn K mainGlobals "int" = some none)
    (z9 : PySem.W.nsIn K mainGlobals "bool" = some none)
    (z10 : PySem.W.nsIn K mainGlobals "str" = some none)
    (z11 : PySem.W.nsIn K mainGlobals "type" = some none)
    (z12 : PySem.W.nsIn K mainGlobals "all" = some none)
    (z13 : PySem.W.nsIn K mainGlobals "ValueError" = some none)
    (z14 : PySem.W.nsIn K mainGlobals "sorted" = some none)
    (z15 : PySem.W.nsIn K mainGlobals "zip" = some none)
    (z16 : PySem.W.nsIn K mainGlobals "dict" = some none)
    (iv1 : PySem.W.nsIn K mainGlobals "MOST_STATES" = some (some (.int 5 t1)))
    (iv2 : PySem.W.nsIn K mainGlobals "MOST_RULES" = some (some (.int 12 t2)))
    (iv3 : PySem.W.nsIn K mainGlobals "MOST_GOAL_SIGNS" = some (some (.int 4 t3)))
    (nT : noTab K = true) : LamX.LawAtS l w K (L2.CX l.prog w) 9 63 "_law_script" mg fa h := by
  have e := hfa.symm.trans (PySem.W.mg_of X G a40)
  cases e
  have Tx : Txt mg := ⟨PySem.W.mg_none_of X G z1, PySem.W.mg_none_of X G z2, PySem.W.mg_none_of X G z3, PySem.W.mg_none_of X G z4, PySem.W.mg_none_of X G z5, PySem.W.mg_none_of X G z6, PySem.W.mg_none_of X G z7, PySem.W.mg_none_of X G z8, PySem.W.mg_none_of X G z9, PySem.W.mg_none_of X G z10, PySem.W.mg_none_of X G z11, PySem.W.mg_none_of X G z12, PySem.W.mg_none_of X G z13, PySem.W.mg_none_of X G z14, PySem.W.mg_none_of X G z15, PySem.W.mg_none_of X G z16, ⟨t1, PySem.W.mg_of X G iv1⟩, ⟨t2, PySem.W.mg_of X G iv2⟩, ⟨t3, PySem.W.mg_of X G iv3⟩⟩
  have F1 := fun_mk (st := top 19) l1 c1 k1
  have F2 := fun_mk (st := top 20) l2 c2 k2
  have F3 := fun_mk (st := top 21) l3 c3 k3
  have F4 := fun_mk (st := top 22) l4 c4 k4
  have F5 := fun_mk (st := top 23) l5 c5 k5
  have F6 := fun_mk (st := top 24) l6 c6 k6
  have F7 := fun_mk (st := top 25) l7 c7 k7
  have F8 := fun_mk (st := top 5) l8 c8 k8
  have F9 := fun_mk (st := top 7) l9 c9 k9
  have F10 := fun_mk (st := top 6) l10 c10 k10
  have F11 := fun_mk (st := top 4) l11 c11 k11
  have F12 := fun_mk (st := top 3) l12 c12 k12
  have F13 := fun_mk (st := top 2) l13 c13 k13
  have F14 := fun_mk (st := top 10) l14 c14 k14
  have F15 := fun_mk (st := top 9) l15 c15 k15
  have F16 := fun_mk (st := top 8) l16 c16 k16
  have F17 := fun_mk (st := top 11) l17 c17 k17
  have F18 := fun_mk (st := top 30) l18 c18 k18
  have F19 := fun_mk (st := top 31) l19 c19 k19
  have F20 := fun_mk (st := top 32) l20 c20 k20
  have F21 := fun_mk (st := meth 1) l21 c21 k21
  have F22 := fun_mk (st := meth 0) l22 c22 k22
  have F23 := fun_mk (st := top 33) l23 c23 k23
  have F24 := fun_mk (st := meth 2) l24 c24 k24
  have F25 := fun_mk (st := meth 8) l25 c25 k25
  have F26 := fun_mk (st := meth 7) l26 c26 k26
  have F27 := fun_mk (st := meth 3) l27 c27 k27
  have F28 := fun_mk (st := meth 10) l28 c28 k28
  have F29 := fun_mk (st := top 36) l29 c29 k29
  have F30 := fun_mk (st := top 37) l30 c30 k30
  have F31 := fun_mk (st := top 38) l31 c31 k31
  have F32 := fun_mk (st := top 39) l32 c32 k32
  have F33 := fun_mk (st := top 40) l33 c33 k33
  have F34 := fun_mk (st := top 41) l34 c34 k34
  have F35 := fun_mk (st := top 42) l35 c35 k35
  have F36 := fun_mk (st := top 43) l36 c36 k36
  have F37 := fun_mk (st := top 44) l37 c37 k37
  have F38 := fun_mk (st := top 45) l38 c38 k38
  have F39 := fun_mk (st := top 46) l39 c39 k39
  have F40 := fun_mk (st := top 47) l40 c40 k40
  have RC : Rdr K C := ⟨⟨rpg, rhd, rpo, rsa⟩, rn0, rn1, rn2, rn3, rn4, rn5, rn6⟩
  have O_BM : OwnExc K mg "BadMachine" BM := ⟨PySem.W.mg_of X G aBM, eBMx, eBMk, eBMb, eBMt⟩
  have O_BS : OwnExc K mg "BadSpot" BS := ⟨PySem.W.mg_of X G aBS, eBSx, eBSk, eBSb, eBSt⟩
  have O_NA : OwnExc K mg "NoArrow" NA := ⟨PySem.W.mg_of X G aNA, eNAx, eNAk, eNAb, eNAt⟩
  obtain ⟨c_is_pile, P_is_pile, hc_is_pile, hd_is_pile, hP_is_pile⟩ := tab_of X (tb "is_pile" (by simp)) (PySem.W.mg_of X G a4) l4
  obtain ⟨c_is_rule_list, P_is_rule_list, hc_is_rule_list, hd_is_rule_list, hP_is_rule_list⟩ := tab_of X (tb "is_rule_list" (by simp)) (PySem.W.mg_of X G a19) l19
  refine ⟨PySem.W.fnOf "law" "law" (defArgs (top 47)) (defBody (top 47)) (defScope (top 47)) .none kV40 dc40 pm40 an40 cd40 ct40, [(c_is_pile, P_is_pile), (c_is_rule_list, P_is_rule_list)], spLaw K [P_is_pile, P_is_rule_list], ?_, ?_, ?_, fun s v => .of_eq rfl, ?_, ?_⟩
  · exact fun p hp => by
        simp only [List.mem_cons, List.not_mem_nil, or_false] at hp
        rcases hp with rfl | rfl
        · exact hP_is_pile
        · exact hP_is_rule_list
  · exact fun p hp => by
        simp only [List.mem_cons, List.not_mem_nil, or_false] at hp
        rcases hp with rfl | rfl
        · exact noTab_none nT X hP_is_pile
        · exact noTab_none nT X hP_is_rule_list
  · exact fun p hp => by
        simp only [List.mem_cons, List.not_mem_nil, or_false] at hp
        rcases hp with rfl | rfl
        · exact hd_is_pile
        · exact hd_is_rule_list
  · intro H a ns hl _ hH hS
    refine ⟨fun P hP => ?_, a, ns, rfl, hS, hl, fun _ => rfl⟩
    simp only [List.mem_cons, List.not_mem_nil, or_false] at hP
    rcases hP with z | z
    · rw [z]; exact ⟨#[], hH (c_is_pile, P_is_pile) (by simp), trivial⟩
    · rw [z]; exact ⟨#[], hH (c_is_rule_list, P_is_rule_list) (by simp), trivial⟩
  intro base _ _ hTB
  have TB_is_pile := tabB_of (hTB (c_is_pile, P_is_pile) (by simp))
  have hT_is_pile : P_is_pile ∈ ([P_is_pile, P_is_rule_list] : List Addr) := by simp
  have TB_is_rule_list := tabB_of (hTB (c_is_rule_list, P_is_rule_list) (by simp))
  have hT_is_rule_list : P_is_rule_list ∈ ([P_is_pile, P_is_rule_list] : List Addr) := by simp
  have b1 := F1.binds (ps := ["thing"]) fun _ _ _ _ _ _ us hl => match us, hl with | [_], _ => rfl
  have G_is_number : Callee l.prog w K mg base [P_is_pile, P_is_rule_list] "is_number" 1 ["thing"] F_num := ⟨f1, _, ok_num F1 Tx, PySem.W.mg_of X G a1, k1, b1⟩
  have b2 := F2.binds (ps := ["thing", "many"]) fun _ _ _ _ _ _ us hl => match us, hl with | [_, _], _ => rfl
  have G_is_state : Callee l.prog w K mg base [P_is_pile, P_is_rule_list] "is_state" 2 ["thing", "many"] F_state := ⟨f2, _, ok_state F2 G_is_number, PySem.W.mg_of X G a2, k2, b2⟩
  have b3 := F3.binds (ps := ["thing"]) fun _ _ _ _ _ _ us hl => match us, hl with | [_], _ => rfl
  have G_is_sign : Callee l.prog w K mg base [P_is_pile, P_is_rule_list] "is_sign" 1 ["thing"] F_sign := ⟨f3, _, ok_sign F3 Tx, PySem.W.mg_of X G a3, k3, b3⟩
  have b4 := F4.binds (ps := ["thing"]) fun _ _ _ _ _ _ us hl => match us, hl with | [_], _ => rfl
  have G_is_pile : Callee l.prog w K mg base [P_is_pile, P_is_rule_list] "is_pile" 3 ["thing"] F_pile := ⟨f4, _, ok_pile F4 Tx hT_is_pile TB_is_pile hc_is_pile G_is_sign, PySem.W.mg_of X G a4, k4, b4⟩
  have b5 := F5.binds (ps := ["thing", "length"]) fun _ _ _ _ _ _ us hl => match us, hl with | [_, _], _ => rfl
  have G_is_tuple : Callee l.prog w K mg base [P_is_pile, P_is_rule_list] "is_tuple" 1 ["thing", "length"] F_tuple := ⟨f5, _, ok_tuple F5 Tx, PySem.W.mg_of X G a5, k5, b5⟩
  have b6 := F6.binds (ps := ["thing", "many"]) fun _ _ _ _ _ _ us hl => match us, hl with | [_, _], _ => rfl
  have G_is_rule : Callee l.prog w K mg base [P_is_pile, P_is_rule_list] "is_rule" 4 ["thing", "many"] F_isrule := ⟨f6, _, ok_isrule F6 Tx G_is_tuple G_is_state G_is_sign G_is_pile, PySem.W.mg_of X G a6, k6, b6⟩
  have b7 := F7.binds (ps := ["thing", "many"]) fun _ _ _ _ _ _ us hl => match us, hl with | [_, _], _ => rfl
  have G_is_spot : Callee l.prog w K mg base [P_is_pile, P_is_rule_list] "is_spot" 4 ["thing", "many"] F_spot := ⟨f7, _, ok_spot F7 G_is_tuple G_is_state G_is_pile, PySem.W.mg_of X G a7, k7, b7⟩
  have b8 := F8.binds (ps := ["table", "key", "worth"]) fun _ _ _ _ _ _ us hl => match us, hl with | [_, _, _], _ => rfl
  have G_keep_least : CalleeB l.prog w K mg base [P_is_pile, P_is_rule_list] "keep_least" 1 ["table", "key", "worth"] 0 F_keep := ⟨f8, _, ok_keep F8, PySem.W.mg_of X G a8, k8, b8⟩
  have b9 := F9.binds (ps := ["reached", "sign", "weights", "rooms"]) fun _ _ _ _ _ _ us hl => match us, hl with | [_, _, _, _], _ => rfl
  have G_read_on : Callee l.prog w K mg base [P_is_pile, P_is_rule_list] "read_on" 2 ["reached", "sign", "weights", "rooms"] F_on := ⟨f9, _, ok_on F9 Tx G_keep_least, PySem.W.mg_of X G a9, k9, b9⟩
  have b10 := F10.binds (ps := ["start", "text", "weights", "rooms"]) fun _ _ _ _ _ _ us hl => match us, hl with | [_, _, _, _], _ => rfl
  have G_read_from : Callee l.prog w K mg base [P_is_pile, P_is_rule_list] "read_from" 3 ["start", "text", "weights", "rooms"] F_from := ⟨f10, _, ok_from F10 G_read_on, PySem.W.mg_of X G a10, k10, b10⟩
  have b11 := F11.binds (ps := ["rules", "weights", "rooms"]) fun _ _ _ _ _ _ us hl => match us, hl with | [_, _, _], _ => rfl
  have G_bring_arrows : CalleeB l.prog w K mg base [P_is_pile, P_is_rule_list] "bring_arrows" 4 ["rules", "weights", "rooms"] 1 F_bring := ⟨f11, _, ok_bring F11 G_keep_least G_read_from, PySem.W.mg_of X G a11, k11, b11⟩
  have b12 := F12.binds (ps := ["rules", "own", "rooms"]) fun _ _ _ _ _ _ us hl => match us, hl with | [_, _, _], _ => rfl
  have G_arrow_weights : Callee l.prog w K mg base [P_is_pile, P_is_rule_list] "arrow_weights" 5 ["rules", "own", "rooms"] F_weights := ⟨f12, _, ok_weights F12 G_bring_arrows, PySem.W.mg_of X G a12, k12, b12⟩
  have b13 := F13.binds (ps := ["many", "goal"]) fun _ _ _ _ _ _ us hl => match us, hl with | [_, _], _ => rfl
  have G_own_arrows : Callee l.prog w K mg base [P_is_pile, P_is_rule_list] "own_arrows" 1 ["many", "goal"] F_own := ⟨f13, _, ok_own F13 Tx, PySem.W.mg_of X G a13, k13, b13⟩
  have b14 := F14.binds (ps := ["row", "sign", "weights", "rooms"]) fun _ _ _ _ _ _ us hl => match us, hl with | [_, _, _, _], _ => rfl
  have G_row_ahead : Callee l.prog w K mg base [P_is_pile, P_is_rule_list] "row_ahead" 2 ["row", "sign", "weights", "rooms"] F_ahead := ⟨f14, _, ok_ahead F14 Tx G_keep_least, PySem.W.mg_of X G a14, k14, b14⟩
  have b15 := F15.binds (ps := ["end", "text", "weights", "rooms"]) fun _ _ _ _ _ _ us hl => match us, hl with | [_, _, _, _], _ => rfl
  have G_rows_to : Callee l.prog w K mg base [P_is_pile, P_is_rule_list] "rows_to" 3 ["end", "text", "weights", "rooms"] F_rows := ⟨f15, _, ok_rows F15 Tx G_row_ahead, PySem.W.mg_of X G a15, k15, b15⟩
  have b16 := F16.binds (ps := ["start", "text", "end", "weights", "rooms"]) fun _ _ _ _ _ _ us hl => match us, hl with | [_, _, _, _, _], _ => rfl
  have G_least_way : Callee l.prog w K mg base [P_is_pile, P_is_rule_list] "least_way" 4 ["start", "text", "end", "weights", "rooms"] F_least := ⟨f16, _, ok_least F16 Tx G_rows_to, PySem.W.mg_of X G a16, k16, b16⟩
  have b17 := F17.binds (ps := ["rules", "own", "weights", "rooms"]) fun _ _ _ _ _ _ us hl => match us, hl with | [_, _, _, _], _ => rfl
  have G_arrow_reasons : Callee l.prog w K mg base [P_is_pile, P_is_rule_list] "arrow_reasons" 5 ["rules", "own", "weights", "rooms"] F_reasons := ⟨f17, _, ok_reasons F17 Tx G_read_from G_least_way, PySem.W.mg_of X G a17, k17, b17⟩
  have b18 := F18.binds (ps := ["thing"]) fun _ _ _ _ _ _ us hl => match us, hl with | [_], _ => rfl
  have G_is_many : Callee l.prog w K mg base [P_is_pile, P_is_rule_list] "is_many" 2 ["thing"] F_ismany := ⟨f18, _, ok_ismany F18 Tx G_is_number, PySem.W.mg_of X G a18, k18, b18⟩
  have b19 := F19.binds (ps := ["thing", "many"]) fun _ _ _ _ _ _ us hl => match us, hl with | [_, _], _ => rfl
  have G_is_rule_list : Callee l.prog w K mg base [P_is_pile, P_is_rule_list] "is_rule_list" 6 ["thing", "many"] F_isrules := ⟨f19, _, ok_isrules F19 Tx hT_is_rule_list TB_is_rule_list hc_is_rule_list G_is_rule, PySem.W.mg_of X G a19, k19, b19⟩
  have b20 := F20.binds (ps := ["thing", "many"]) fun _ _ _ _ _ _ us hl => match us, hl with | [_, _], _ => rfl
  have G_is_goal : Callee l.prog w K mg base [P_is_pile, P_is_rule_list] "is_goal" 5 ["thing", "many"] F_isgoal := ⟨f20, _, ok_isgoal F20 Tx G_is_spot, PySem.W.mg_of X G a20, k20, b20⟩
  have b21 := F21.binds (ps := ["self"]) fun _ _ _ _ _ _ us hl => match us, hl with | [_], _ => rfl
  have G_m_find_arrows : CalleeI l.prog w K mg base [P_is_pile, P_is_rule_list] C "_find_arrows" 6 ["self"] (F_find C) := ⟨RC.cl, f21, _, ok_find F21 RC G_arrow_weights G_arrow_reasons, ⟨a21, i21, k21⟩, b21⟩
  have b22 := F22.binds (ps := ["self", "many", "rules", "goal"]) fun _ _ _ _ _ _ us hl => match us, hl with | [_, _, _, _], _ => rfl
  have G_reader : CalleeC l.prog w K mg base [P_is_pile, P_is_rule_list] "Reader" C 7 ["self", "many", "rules", "goal"] (F_init C BM BS) := ⟨f22, _, ok_init F22 Tx RC O_BM O_BS G_is_many G_is_rule_list G_is_goal G_own_arrows G_m_find_arrows, ⟨rmk, a22, i22, rkc⟩, PySem.W.mg_of X G aC, b22⟩
  have b23 := F23.binds (ps := ["thing", "weights"]) fun _ _ _ _ _ _ us hl => match us, hl with | [_, _], _ => rfl
  have G_is_arrow : Callee l.prog w K mg base [P_is_pile, P_is_rule_list] "is_arrow" 2 ["thing", "weights"] F_isarrow := ⟨f23, _, ok_isarrow F23 Tx G_is_tuple G_is_number, PySem.W.mg_of X G a23, k23, b23⟩
  have b24 := F24.binds (ps := ["self", "arrow"]) fun _ _ _ _ _ _ us hl => match us, hl with | [_, _], _ => rfl
  have G_m_check_arrow : CalleeM l.prog w K mg base [P_is_pile, P_is_rule_list] C "_check_arrow" 3 ["self", "arrow"] (F_chka C NA) := ⟨RC.cl, f24, _, ok_chka F24 RC O_NA G_is_arrow, ⟨a24, i24, k24⟩, b24⟩
  have b25 := F25.binds (ps := ["self", "arrow"]) fun _ _ _ _ _ _ us hl => match us, hl with | [_, _], _ => rfl
  have G_m_weight : CalleeM l.prog w K mg base [P_is_pile, P_is_rule_list] C "weight" 4 ["self", "arrow"] (F_mweight C NA) := ⟨RC.cl, f25, _, ok_mweight F25 RC G_m_check_arrow, ⟨a25, i25, k25⟩, b25⟩
  have b26 := F26.binds (ps := ["self"]) fun _ _ _ _ _ _ us hl => match us, hl with | [_], _ => rfl
  have G_m_arrows : CalleeM l.prog w K mg base [P_is_pile, P_is_rule_list] C "arrows" 1 ["self"] (F_marrows C) := ⟨RC.cl, f26, _, ok_marrows F26 Tx RC, ⟨a26, i26, k26⟩, b26⟩
  have b27 := F27.binds (ps := ["self", "spot"]) fun _ _ _ _ _ _ us hl => match us, hl with | [_, _], _ => rfl
  have G_m_check_spot : CalleeM l.prog w K mg base [P_is_pile, P_is_rule_list] C "_check_spot" 5 ["self", "spot"] (F_chks C BS) := ⟨RC.cl, f27, _, ok_chks F27 RC O_BS G_is_spot, ⟨a27, i27, k27⟩, b27⟩
  have b28 := F28.binds (ps := ["self", "spot"]) fun _ _ _ _ _ _ us hl => match us, hl with | [_, _], _ => rfl
  have G_m_least : CalleeM l.prog w K mg base [P_is_pile, P_is_rule_list] C "least" 6 ["self", "spot"] (F_mleast C BS) := ⟨RC.cl, f28, _, ok_mleast F28 RC G_m_check_spot G_read_from, ⟨a28, i28, k28⟩, b28⟩
  have b29 := F29.binds (ps := ["_law_script", "_law_k"]) fun _ _ _ _ _ _ us hl => match us, hl with | [_, _], _ => rfl
  have G_L_cell_at : Callee l.prog w K mg base [P_is_pile, P_is_rule_list] "_law_cell_at" 1 ["_law_script", "_law_k"] F_cell := ⟨f29, _, ok_cell F29 Tx, PySem.W.mg_of X G a29, k29, b29⟩
  have b30 := F30.binds (ps := ["_law_cell"]) fun _ _ _ _ _ _ us hl => match us, hl with | [_], _ => rfl
  have G_L_signs : Callee l.prog w K mg base [P_is_pile, P_is_rule_list] "_law_signs" 1 ["_law_cell"] F_signs := ⟨f30, _, ok_signs F30 Tx, PySem.W.mg_of X G a30, k30, b30⟩
  have b31 := F31.binds (ps := ["_law_cell", "_law_k"]) fun _ _ _ _ _ _ us hl => match us, hl with | [_, _], _ => rfl
  have G_L_mixed : Callee l.prog w K mg base [P_is_pile, P_is_rule_list] "_law_mixed" 1 ["_law_cell", "_law_k"] F_mixed := ⟨f31, _, ok_mixed F31, PySem.W.mg_of X G a31, k31, b31⟩
  have b32 := F32.binds (ps := ["_law_cell", "_law_many", "_law_signs_here"]) fun _ _ _ _ _ _ us hl => match us, hl with | [_, _, _], _ => rfl
  have G_L_rule : Callee l.prog w K mg base [P_is_pile, P_is_rule_list] "_law_rule" 1 ["_law_cell", "_law_many", "_law_signs_here"] F_rule := ⟨f32, _, ok_rule F32 Tx, PySem.W.mg_of X G a32, k32, b32⟩
  have b33 := F33.binds (ps := ["_law_script", "_law_many", "_law_signs_here"]) fun _ _ _ _ _ _ us hl => match us, hl with | [_, _, _], _ => rfl
  have G_L_rules : Callee l.prog w K mg base [P_is_pile, P_is_rule_list] "_law_rules" 2 ["_law_script", "_law_many", "_law_signs_here"] F_lrules := ⟨f33, _, ok_lrules F33 Tx G_L_cell_at G_L_mixed G_L_rule, PySem.W.mg_of X G a33, k33, b33⟩
  have b34 := F34.binds (ps := ["_law_cell", "_law_many", "_law_signs_here"]) fun _ _ _ _ _ _ us hl => match us, hl with | [_, _, _], _ => rfl
  have G_L_goal : Callee l.prog w K mg base [P_is_pile, P_is_rule_list] "_law_goal" 2 ["_law_cell", "_law_many", "_law_signs_here"] F_lgoal := ⟨f34, _, ok_lgoal F34 Tx G_L_mixed, PySem.W.mg_of X G a34, k34, b34⟩
  have b35 := F35.binds (ps := ["_law_cell", "_law_many", "_law_signs_here", "_law_goal_here"]) fun _ _ _ _ _ _ us hl => match us, hl with | [_, _, _, _], _ => rfl
  have G_L_spot : Callee l.prog w K mg base [P_is_pile, P_is_rule_list] "_law_spot" 2 ["_law_cell", "_law_many", "_law_signs_here", "_law_goal_here"] F_lspot := ⟨f35, _, ok_lspot F35 Tx G_L_mixed, PySem.W.mg_of X G a35, k35, b35⟩
  have b36 := F36.binds (ps := ["_law_reader"]) fun _ _ _ _ _ _ us hl => match us, hl with | [_], _ => rfl
  have G_L_weights : Callee l.prog w K mg base [P_is_pile, P_is_rule_list] "_law_weights" 5 ["_law_reader"] (F_lweights C) := ⟨f36, _, ok_lweights F36 G_m_arrows G_m_weight, PySem.W.mg_of X G a36, k36, b36⟩
  have b37 := F37.binds (ps := ["_law_text", "_law_names"]) fun _ _ _ _ _ _ us hl => match us, hl with | [_, _], _ => rfl
  have G_L_signed : Callee l.prog w K mg base [P_is_pile, P_is_rule_list] "_law_signed" 1 ["_law_text", "_law_names"] F_lsigned := ⟨f37, _, ok_lsigned F37, PySem.W.mg_of X G a37, k37, b37⟩
  have b38 := F38.binds (ps := ["_law_one", "_law_other", "_law_spots"]) fun _ _ _ _ _ _ us hl => match us, hl with | [_, _, _], _ => rfl
  have G_L_alike : Callee l.prog w K mg base [P_is_pile, P_is_rule_list] "_law_alike" 7 ["_law_one", "_law_other", "_law_spots"] (F_lalike C) := ⟨f38, _, ok_lalike F38 G_L_weights G_m_least, PySem.W.mg_of X G a38, k38, b38⟩
  have b39 := F39.binds (ps := ["_law_reader", "_law_fewer_here", "_law_spots"]) fun _ _ _ _ _ _ us hl => match us, hl with | [_, _, _], _ => rfl
  have G_L_fewer : Callee l.prog w K mg base [P_is_pile, P_is_rule_list] "_law_fewer" 7 ["_law_reader", "_law_fewer_here", "_law_spots"] (F_lfewer C) := ⟨f39, _, ok_lfewer F39 G_L_weights G_m_least, PySem.W.mg_of X G a39, k39, b39⟩
  exact (ok_law F40 Tx G_L_cell_at G_L_signs G_L_mixed G_L_rules G_L_goal G_L_spot G_L_weights G_L_signed G_L_alike G_L_fewer G_reader G_m_least).imp sp_of_law
end K14
open PySem PySem.W PyProof.Rows
set_option maxRecDepth 100000 in
set_option maxHeartbeats 0 in
theorem PySem.Challenge.cw_pilerun_k14_whole_rules_turned_holds : PySem.Challenge.rw_pilerun_k14_whole_rules_turned.Holds := by
  w_on; o_law; k_head; (case hw => w_witness2)
  k_fill
  refine DL.walkT (l := PySem.Challenge.rw_pilerun_k14_whole_rules_turned) (n := 63) (k := 9) (x := "_law_script") (CX := fun w => L2.CX (PySem.Challenge.rw_pilerun_k14_whole_rules_turned).prog w) ["is_pile", "is_rule_list"] (by decide +kernel) rfl (by decide) rfl ⟨rfl, by decide, by decide⟩ (fun w h Y => PySem.W.kIn_of Y) ?F (fun _ _ _ _ _ z => by obtain ⟨_, _, _, _, _, _, _, _, _, _, _, _, z⟩ := z; exact z)
  case F =>
    intro w mg fa h Y KX G hmg tb
    refine' K14.all_mk KX G hmg tb ?aC ?aBM ?aBS ?aNA ?a1 ?l1 ?c1 ?k1 ?a2 ?l2 ?c2 ?k2 ?a3 ?l3 ?c3 ?k3 ?a4 ?l4 ?c4 ?k4 ?a5 ?l5 ?c5 ?k5 ?a6 ?l6 ?c6 ?k6 ?a7 ?l7 ?c7 ?k7 ?a8 ?l8 ?c8 ?k8 ?a9 ?l9 ?c9 ?k9 ?a10 ?l10 ?c10 ?k10 ?a11 ?l11 ?c11 ?k11 ?a12 ?l12 ?c12 ?k12 ?a13 ?l13 ?c13 ?k13 ?a14 ?l14 ?c14 ?k14 ?a15 ?l15 ?c15 ?k15 ?a16 ?l16 ?c16 ?k16 ?a17 ?l17 ?c17 ?k17 ?a18 ?l18 ?c18 ?k18 ?a19 ?l19 ?c19 ?k19 ?a20 ?l20 ?c20 ?k20 ?a21 ?i21 ?l21 ?c21 ?k21 ?a22 ?i22 ?l22 ?c22 ?k22 ?a23 ?l23 ?c23 ?k23 ?a24 ?i24 ?l24 ?c24 ?k24 ?a25 ?i25 ?l25 ?c25 ?k25 ?a26 ?i26 ?l26 ?c26 ?k26 ?a27 ?i27 ?l27 ?c27 ?k27 ?a28 ?i28 ?l28 ?c28 ?k28 ?a29 ?l29 ?c29 ?k29 ?a30 ?l30 ?c30 ?k30 ?a31 ?l31 ?c31 ?k31 ?a32 ?l32 ?c32 ?k32 ?a33 ?l33 ?c33 ?k33 ?a34 ?l34 ?c34 ?k34 ?a35 ?l35 ?c35 ?k35 ?a36 ?l36 ?c36 ?k36 ?a37 ?l37 ?c37 ?k37 ?a38 ?l38 ?c38 ?k38 ?a39 ?l39 ?c39 ?k39 ?a40 ?l40 ?c40 ?k40 ?rpg ?rhd ?rpo ?rsa ?rmk ?rkc ?rn0 ?rn1 ?rn2 ?rn3 ?rn4 ?rn5 ?rn6 ?eBMx ?eBMk ?eBMb ?eBMt ?eBSx ?eBSk ?eBSb ?eBSt ?eNAx ?eNAk ?eNAb ?eNAt ?z1 ?z2 ?z3 ?z4 ?z5 ?z6 ?z7 ?z8 ?z9 ?z10 ?z11 ?z12 ?z13 ?z14 ?z15 ?z16 ?iv1 ?iv2 ?iv3 ?nT
    (case aC => k_is)
    (case aBM => k_is)
    (case aBS => k_is)
    (case aNA => k_is)
    (case a1 => k_is); (case l1 => k_is); (case c1 => k_is); (case k1 => k_is)
    (case a2 => k_is); (case l2 => k_is); (case c2 => k_is); (case k2 => k_is)
    (case a3 => k_is); (case l3 => k_is); (case c3 => k_is); (case k3 => k_is)
    (case a4 => k_is); (case l4 => k_is); (case c4 => k_is); (case k4 => k_is)
    (case a5 => k_is); (case l5 => k_is); (case c5 => k_is); (case k5 => k_is)
    (case a6 => k_is); (case l6 => k_is); (case c6 => k_is); (case k6 => k_is)
    (case a7 => k_is); (case l7 => k_is); (case c7 => k_is); (case k7 => k_is)
    (case a8 => k_is); (case l8 => k_is); (case c8 => k_is); (case k8 => k_is)
    (case a9 => k_is); (case l9 => k_is); (case c9 => k_is); (case k9 => k_is)
    (case a10 => k_is); (case l10 => k_is); (case c10 => k_is); (case k10 => k_is)
    (case a11 => k_is); (case l11 => k_is); (case c11 => k_is); (case k11 => k_is)
    (case a12 => k_is); (case l12 => k_is); (case c12 => k_is); (case k12 => k_is)
    (case a13 => k_is); (case l13 => k_is); (case c13 => k_is); (case k13 => k_is)
    (case a14 => k_is); (case l14 => k_is); (case c14 => k_is); (case k14 => k_is)
    (case a15 => k_is); (case l15 => k_is); (case c15 => k_is); (case k15 => k_is)
    (case a16 => k_is); (case l16 => k_is); (case c16 => k_is); (case k16 => k_is)
    (case a17 => k_is); (case l17 => k_is); (case c17 => k_is); (case k17 => k_is)
    (case a18 => k_is); (case l18 => k_is); (case c18 => k_is); (case k18 => k_is)
    (case a19 => k_is); (case l19 => k_is); (case c19 => k_is); (case k19 => k_is)
    (case a20 => k_is); (case l20 => k_is); (case c20 => k_is); (case k20 => k_is)
    (case a21 => k_is); (case i21 => k_is); (case l21 => k_is); (case c21 => k_is); (case k21 => k_is)
    (case a22 => k_is); (case i22 => k_is); (case l22 => k_is); (case c22 => k_is); (case k22 => k_is)
    (case a23 => k_is); (case l23 => k_is); (case c23 => k_is); (case k23 => k_is)
    (case a24 => k_is); (case i24 => k_is); (case l24 => k_is); (case c24 => k_is); (case k24 => k_is)
    (case a25 => k_is); (case i25 => k_is); (case l25 => k_is); (case c25 => k_is); (case k25 => k_is)
    (case a26 => k_is); (case i26 => k_is); (case l26 => k_is); (case c26 => k_is); (case k26 => k_is)
    (case a27 => k_is); (case i27 => k_is); (case l27 => k_is); (case c27 => k_is); (case k27 => k_is)
    (case a28 => k_is); (case i28 => k_is); (case l28 => k_is); (case c28 => k_is); (case k28 => k_is)
    (case a29 => k_is); (case l29 => k_is); (case c29 => k_is); (case k29 => k_is)
    (case a30 => k_is); (case l30 => k_is); (case c30 => k_is); (case k30 => k_is)
    (case a31 => k_is); (case l31 => k_is); (case c31 => k_is); (case k31 => k_is)
    (case a32 => k_is); (case l32 => k_is); (case c32 => k_is); (case k32 => k_is)
    (case a33 => k_is); (case l33 => k_is); (case c33 => k_is); (case k33 => k_is)
    (case a34 => k_is); (case l34 => k_is); (case c34 => k_is); (case k34 => k_is)
    (case a35 => k_is); (case l35 => k_is); (case c35 => k_is); (case k35 => k_is)
    (case a36 => k_is); (case l36 => k_is); (case c36 => k_is); (case k36 => k_is)
    (case a37 => k_is); (case l37 => k_is); (case c37 => k_is); (case k37 => k_is)
    (case a38 => k_is); (case l38 => k_is); (case c38 => k_is); (case k38 => k_is)
    (case a39 => k_is); (case l39 => k_is); (case c39 => k_is); (case k39 => k_is)
    (case a40 => k_is); (case l40 => k_is); (case c40 => k_is); (case k40 => k_is)
    (case rpg => k_is)
    (case rhd => k_is)
    (case rpo => k_is)
    (case rsa => k_is)
    (case rmk => k_is)
    (case rkc => k_is)
    (case rn0 => k_is)
    (case rn1 => k_is)
    (case rn2 => k_is)
    (case rn3 => k_is)
    (case rn4 => k_is)
    (case rn5 => k_is)
    (case rn6 => k_is)
    (case eBMx => k_exc)
    (case eBMk => k_is)
    (case eBMb => k_is)
    (case eBMt => k_is)
    (case eBSx => k_exc)
    (case eBSk => k_is)
    (case eBSb => k_is)
    (case eBSt => k_is)
    (case eNAx => k_exc)
    (case eNAk => k_is)
    (case eNAb => k_is)
    (case eNAt => k_is)
    (case z1 => k_is); (case z2 => k_is); (case z3 => k_is); (case z4 => k_is); (case z5 => k_is); (case z6 => k_is); (case z7 => k_is); (case z8 => k_is); (case z9 => k_is); (case z10 => k_is); (case z11 => k_is); (case z12 => k_is); (case z13 => k_is); (case z14 => k_is); (case z15 => k_is); (case z16 => k_is)
    (case iv1 => k_is); (case iv2 => k_is); (case iv3 => k_is)
    (case nT => rfl)


