/- The plain mathematics of documents: what is built may be. Conditions: none. -/
import Derived.Test.YteopighhhcikcaaGreatDoorTokMath4
/- The plain mathematics of documents: what tokens build, ways up. Conditions: none. -/
namespace Go.Proofs.YteopighhhcikcaaGreatDoor
namespace Tok
theorem nameB_nil : nameB [] = false := by decide +kernel
end Tok
namespace Tre
open Tok
/-- A token that came in. -/
structure Tk where
  kind : Int
  name : List UInt8
  text : List UInt8
  attrs : List At
deriving DecidableEq
/-- A node. -/
structure Nd where
  parent : Int
  tag : List UInt8
  text : List UInt8
  attrs : List At
  kids : List Int
deriving DecidableEq
def rootT : List UInt8 := [114, 111, 111, 116]
def imgT : List UInt8 := [105, 109, 103]
def par (ns : List Nd) (i : Nat) : Int := match ns[i]? with
  | some n => n.parent
  | none => -1
def tagOf (ns : List Nd) (i : Nat) : List UInt8 := match ns[i]? with
  | some n => n.tag
  | none => []
def kidsOf (ns : List Nd) (i : Nat) : List Int := match ns[i]? with
  | some n => n.kids
  | none => []
/-- A node and all above it. -/
def upF (ns : List Nd) : Nat → Nat → Int → List Nat
  | 0, _, _ => []
  | f + 1, b, n => if 0 ≤ n ∧ n < (b : Int) then n.toNat :: upF ns f n.toNat (par ns n.toNat) else []
def up (ns : List Nd) (n : Int) : List Nat := upF ns ns.length ns.length n
def mayAts (l : List At) : Bool := decide ((l.map (·.1)).Nodup) && l.all (fun a => nameB a.1)
def mayTk (t : Tk) : Bool := if t.kind = 1 then nameB t.name && mayAts t.attrs else if t.kind = 2 then nameB t.name else decide (t.kind = 3)
structure St where
  ns : List Nd
  place : Nat
deriving DecidableEq
def addKid (ns : List Nd) (p : Nat) (k : Int) : List Nd := ns.modify p fun n => { n with kids := n.kids ++ [k] }
def add (s : St) (n : Nd) : Except Nat St :=
  if (up s.ns s.place).length = 13 then .error 5 else if s.ns.length = 60 then .error 3
  else .ok ⟨addKid s.ns s.place s.ns.length ++ [{ n with parent := s.place }], s.place⟩
def endsText (s : St) : Bool := match (kidsOf s.ns s.place).getLast? with
  | some k => decide (tagOf s.ns k.toNat = [])
  | none => false
def more (ns : List Nd) (x : List UInt8) : List Nd := ns.modify (ns.length - 1) fun n => { n with text := n.text ++ x }
def openS (s : St) (t : Tk) : Except Nat St :=
  if t.name = rootT then .ok s else match add s ⟨0, t.name, [], t.attrs, []⟩ with
    | .error e => .error e
    | .ok s' => .ok (if t.name = imgT then s' else ⟨s'.ns, s'.ns.length - 1⟩)
def closeS (s : St) (name : List UInt8) : St := match (up s.ns s.place).find? (fun k => decide (0 < k) && decide (tagOf s.ns k = name)) with
  | some k => ⟨s.ns, (par s.ns k).toNat⟩
  | none => s
def textS (s : St) (x : List UInt8) : Except Nat St :=
  if x = [] then .ok s else if endsText s then .ok ⟨more s.ns x, s.place⟩ else match add s ⟨0, [], [], [], []⟩ with
    | .error e => .error e
    | .ok s' => .ok ⟨more s'.ns x, s'.place⟩
def take (s : St) (t : Tk) : Except Nat St :=
  if mayTk t then (if t.kind = 1 then openS s t else if t.kind = 3 then textS s t.text else .ok (closeS s t.name)) else .error 2
def run : St → List Tk → Except Nat St
  | s, [] => .ok s
  | s, t :: r => match take s t with
    | .error e => .error e
    | .ok s' => run s' r
def st0 : St := ⟨[⟨-1, rootT, [], [], []⟩], 0⟩
/-- What tokens build, and why nothing. -/
def build (ts : List Tk) : List Nd × Nat := match run st0 ts with
  | .ok s => (s.ns, 0)
  | .error e => ([], e)
/-! ### ways up -/
theorem upF_fuel (ns : List Nd) : ∀ (f b : Nat) (n : Int), b ≤ f → upF ns f b n = upF ns b b n := by
  intro f
  induction f using Nat.strongRecOn with
  | _ f ih =>
    intro b n h
    cases f with
    | zero => obtain rfl : b = 0 := by omega
              rfl
    | succ f =>
      cases b with
      | zero =>
        show (if 0 ≤ n ∧ n < ((0 : Nat) : Int) then _ else _) = _
        rw [if_neg (by omega)]
        rfl
      | succ b =>
        show (if 0 ≤ n ∧ n < ((b + 1 : Nat) : Int) then _ else _) = (if 0 ≤ n ∧ n < ((b + 1 : Nat) : Int) then _ else _)
        by_cases hn : 0 ≤ n ∧ n < ((b + 1 : Nat) : Int)
        · rw [if_pos hn, if_pos hn]
          rw [ih f (Nat.lt_succ_self f) n.toNat _ (by omega), ih b (by omega) n.toNat _ (by omega)]
        · rw [if_neg hn, if_neg hn]
theorem upF_no (ns : List Nd) (b : Nat) (n : Int) (h : ¬(0 ≤ n ∧ n < (b : Int))) : upF ns b b n = [] := by
  cases b with
  | zero => rfl
  | succ b => show (if _ then _ else _) = _; rw [if_neg h]
theorem upF_yes (ns : List Nd) (b : Nat) (n : Nat) (h : n < b) : upF ns b b n = n :: upF ns n n (par ns n) := by
  cases b with
  | zero => omega
  | succ b =>
    show (if 0 ≤ (n : Int) ∧ (n : Int) < ((b + 1 : Nat) : Int) then _ else _) = _
    rw [if_pos ⟨by omega, by omega⟩, Int.toNat_natCast, upF_fuel ns b n _ (by omega)]
theorem up_no {ns : List Nd} {n : Int} (h : ¬(0 ≤ n ∧ n < (ns.length : Int))) : up ns n = [] := upF_no _ _ _ h
theorem upF_len (ns : List Nd) : ∀ (b : Nat) (n : Int), (upF ns b b n).length ≤ b := by
  intro b
  induction b using Nat.strongRecOn with
  | _ b ih =>
    intro n
    by_cases h : 0 ≤ n ∧ n < (b : Int)
    · obtain ⟨m, rfl⟩ : ∃ m : Nat, n = m := ⟨n.toNat, by omega⟩
      rw [upF_yes ns b m (by omega), List.length_cons]
      have := ih m (by omega) (par ns m)
      omega
    · rw [upF_no _ _ _ h]; exact Nat.zero_le _
theorem up_len (ns : List Nd) (n : Int) : (up ns n).length ≤ ns.length := upF_len ns _ n
theorem upF_lt (ns : List Nd) : ∀ (b : Nat) (n : Int) (k : Nat), k ∈ upF ns b b n → k < b := by
  intro b
  induction b using Nat.strongRecOn with
  | _ b ih =>
    intro n k hk
    by_cases h : 0 ≤ n ∧ n < (b : Int)
    · obtain ⟨m, rfl⟩ : ∃ m : Nat, n = m := ⟨n.toNat, by omega⟩
      rw [upF_yes ns b m (by omega)] at hk
      rcases List.mem_cons.1 hk with rfl | hk
      · omega
      · have := ih m (by omega) (par ns m) k hk
        omega
    · rw [upF_no _ _ _ h] at hk; cases hk
theorem up_lt {ns : List Nd} {n : Int} {k : Nat} (h : k ∈ up ns n) : k < ns.length := upF_lt ns _ n k h
/-- What keeps parents keeps the ways up. -/
theorem upF_same {ns ms : List Nd} : ∀ (b : Nat) (n : Int), (∀ k, k < b → par ns k = par ms k) → upF ns b b n = upF ms b b n := by
  intro b
  induction b using Nat.strongRecOn with
  | _ b ih =>
    intro n h
    by_cases hn : 0 ≤ n ∧ n < (b : Int)
    · obtain ⟨m, rfl⟩ : ∃ m : Nat, n = m := ⟨n.toNat, by omega⟩
      rw [upF_yes ns b m (by omega), upF_yes ms b m (by omega), h m (by omega), ih m (by omega) _ (fun k hk => h k (by omega))]
    · rw [upF_no _ _ _ hn, upF_no _ _ _ hn]
theorem get_lt {ns : List Nd} {i : Nat} (h : i < ns.length) : ∃ n, ns[i]? = some n := ⟨_, List.getElem?_eq_getElem h⟩
theorem par_of {ns : List Nd} {i : Nat} {n : Nd} (h : ns[i]? = some n) : par ns i = n.parent := by unfold par; rw [h]
theorem tagOf_of {ns : List Nd} {i : Nat} {n : Nd} (h : ns[i]? = some n) : tagOf ns i = n.tag := by unfold tagOf; rw [h]
theorem kidsOf_of {ns : List Nd} {i : Nat} {n : Nd} (h : ns[i]? = some n) : kidsOf ns i = n.kids := by unfold kidsOf; rw [h]
/-! ### what every document keeps while it is built -/
structure Ok (s : St) : Prop where
  pos : 0 < s.ns.length
  few : s.ns.length ≤ 60
  place : s.place < s.ns.length
  par0 : par s.ns 0 = -1
  pars : ∀ i, 0 < i → i < s.ns.length → 0 ≤ par s.ns i ∧ par s.ns i < (i : Int)
  kids : ∀ p, ∀ k ∈ kidsOf s.ns p, 0 ≤ k ∧ k < (s.ns.length : Int)
  kcnt : ∀ p, (kidsOf s.ns p).length + 1 ≤ s.ns.length
theorem ok0 : Ok st0 := by
  refine ⟨by decide, by decide, by decide, rfl, ?_, ?_, ?_⟩
  · intro i h1 h2
    have : i < 1 := h2
    omega
  · intro p k hk
    match p with
    | 0 => cases hk
    | p + 1 => cases hk
  · intro p
    match p with
    | 0 => decide
    | p + 1 => exact Nat.le_refl _
theorem addKid_len (ns : List Nd) (p : Nat) (k : Int) : (addKid ns p k).length = ns.length := by unfold addKid; rw [List.length_modify]
theorem addKid_get (ns : List Nd) (p : Nat) (k : Int) (i : Nat) : (addKid ns p k)[i]? = if p = i then (ns[i]?).map (fun n => { n with kids := n.kids ++ [k] }) else ns[i]? := by
  unfold addKid
  rw [List.getElem?_modify]
  by_cases h : p = i
  · simp [h]
  · simp [h]
theorem more_len (ns : List Nd) (x : List UInt8) : (more ns x).length = ns.length := by unfold more; rw [List.length_modify]
theorem more_get (ns : List Nd) (x : List UInt8) (i : Nat) : (more ns x)[i]? = if ns.length - 1 = i then (ns[i]?).map (fun n => { n with text := n.text ++ x }) else ns[i]? := by
  unfold more
  rw [List.getElem?_modify]
  by_cases h : ns.length - 1 = i
  · simp [h]
  · simp [h]
theorem par_addKid (ns : List Nd) (p : Nat) (k : Int) (i : Nat) : par (addKid ns p k) i = par ns i := by
  unfold par
  rw [addKid_get]
  by_cases h : p = i
  · rw [if_pos h]; cases ns[i]? <;> rfl
  · rw [if_neg h]
theorem tag_addKid (ns : List Nd) (p : Nat) (k : Int) (i : Nat) : tagOf (addKid ns p k) i = tagOf ns i := by
  unfold tagOf
  rw [addKid_get]
  by_cases h : p = i
  · rw [if_pos h]; cases ns[i]? <;> rfl
  · rw [if_neg h]
theorem par_more (ns : List Nd) (x : List UInt8) (i : Nat) : par (more ns x) i = par ns i := by
  unfold par
  rw [more_get]
  by_cases h : ns.length - 1 = i
  · rw [if_pos h]; cases ns[i]? <;> rfl
  · rw [if_neg h]
theorem tag_more (ns : List Nd) (x : List UInt8) (i : Nat) : tagOf (more ns x) i = tagOf ns i := by
  unfold tagOf
  rw [more_get]
  by_cases h : ns.length - 1 = i
  · rw [if_pos h]; cases ns[i]? <;> rfl
  · rw [if_neg h]
theorem kids_more (ns : List Nd) (x : List UInt8) (i : Nat) : kidsOf (more ns x) i = kidsOf ns i := by
  unfold kidsOf
  rw [more_get]
  by_cases h : ns.length - 1 = i
  · rw [if_pos h]; cases ns[i]? <;> rfl
  · rw [if_neg h]
theorem get_push (ns : List Nd) (n : Nd) (i : Nat) : (ns ++ [n])[i]? = if i < ns.length then ns[i]? else if i = ns.length then some n else none := by
  by_cases h : i < ns.length
  · rw [if_pos h, List.getElem?_append_left h]
  · rw [if_neg h, List.getElem?_append_right (by omega)]
    by_cases h2 : i = ns.length
    · rw [if_pos h2, h2, Nat.sub_self]; rfl
    · rw [if_neg h2, List.getElem?_eq_none (by simp; omega)]
theorem more_ok {s : St} (h : Ok s) (x : List UInt8) : Ok ⟨more s.ns x, s.place⟩ :=
  ⟨by show 0 < (more s.ns x).length; rw [more_len]; exact h.pos, by show (more s.ns x).length ≤ 60; rw [more_len]; exact h.few, by show s.place < (more s.ns x).length; rw [more_len]; exact h.place, by show par (more s.ns x) 0 = -1; rw [par_more]; exact h.par0,
    fun i h1 h2 => by
      have h2 : i < (more s.ns x).length := h2
      rw [more_len] at h2
      show 0 ≤ par (more s.ns x) i ∧ par (more s.ns x) i < _
      rw [par_more]; exact h.pars i h1 h2,
    fun p k hk => by
      have hk : k ∈ kidsOf (more s.ns x) p := hk
      rw [kids_more] at hk
      show _ ∧ k < ((more s.ns x).length : Int)
      rw [more_len]; exact h.kids p k hk,
    fun p => by
      show (kidsOf (more s.ns x) p).length + 1 ≤ (more s.ns x).length
      rw [kids_more, more_len]; exact h.kcnt p⟩
theorem par_push {ns : List Nd} (n : Nd) {i : Nat} (h : i < ns.length) : par (ns ++ [n]) i = par ns i := by unfold par; rw [List.getElem?_append_left h]
theorem par_new (ns : List Nd) (n : Nd) : par (ns ++ [n]) ns.length = n.parent := by unfold par; rw [get_push, if_neg (Nat.lt_irrefl _), if_pos rfl]
theorem tag_push {ns : List Nd} (n : Nd) {i : Nat} (h : i < ns.length) : tagOf (ns ++ [n]) i = tagOf ns i := by unfold tagOf; rw [List.getElem?_append_left h]
theorem tag_new (ns : List Nd) (n : Nd) : tagOf (ns ++ [n]) ns.length = n.tag := by unfold tagOf; rw [get_push, if_neg (Nat.lt_irrefl _), if_pos rfl]
theorem kids_push {ns : List Nd} (n : Nd) {i : Nat} (h : i < ns.length) : kidsOf (ns ++ [n]) i = kidsOf ns i := by unfold kidsOf; rw [List.getElem?_append_left h]
theorem kids_new (ns : List Nd) (n : Nd) : kidsOf (ns ++ [n]) ns.length = n.kids := by unfold kidsOf; rw [get_push, if_neg (Nat.lt_irrefl _), if_pos rfl]
theorem kids_none {ns : List Nd} {i : Nat} (h : ns.length ≤ i) : kidsOf ns i = [] := by unfold kidsOf; rw [List.getElem?_eq_none h]
theorem kids_addKid (ns : List Nd) (p : Nat) (k : Int) (i : Nat) : kidsOf (addKid ns p k) i = if p = i ∧ i < ns.length then kidsOf ns i ++ [k] else kidsOf ns i := by
  unfold kidsOf
  rw [addKid_get]
  by_cases h : p = i
  · rw [if_pos h]
    by_cases h2 : i < ns.length
    · rw [if_pos ⟨h, h2⟩]
      obtain ⟨n, hn⟩ := get_lt h2
      rw [hn]; rfl
    · rw [if_neg (fun e => h2 e.2), List.getElem?_eq_none (by omega)]; rfl
  · rw [if_neg h, if_neg (fun e => h e.1)]
theorem add_ok {s s' : St} {n : Nd} (h : Ok s) (hn : n.kids = []) (ha : add s n = .ok s') : Ok s' ∧ s'.ns.length = s.ns.length + 1 ∧ s'.place = s.place ∧ s'.ns = addKid s.ns s.place s.ns.length ++ [{ n with parent := (s.place : Int) }] ∧ (up s.ns s.place).length ≠ 13 := by
  unfold add at ha
  by_cases h13 : (up s.ns s.place).length = 13
  · rw [if_pos h13] at ha; cases ha
  rw [if_neg h13] at ha
  by_cases h60 : s.ns.length = 60
  · rw [if_pos h60] at ha; cases ha
  rw [if_neg h60] at ha
  injection ha with ha
  subst ha
  have hlen : (addKid s.ns s.place s.ns.length ++ [{ n with parent := (s.place : Int) }]).length = s.ns.length + 1 := by rw [List.length_append, addKid_len]; rfl
  have hpl := h.place
  have hfew := h.few
  refine ⟨⟨?_, ?_, ?_, ?_, ?_, ?_, ?_⟩, hlen, rfl, rfl, h13⟩
  · show 0 < List.length _; rw [hlen]; omega
  · show List.length _ ≤ 60; rw [hlen]; omega
  · show s.place < List.length _; rw [hlen]; omega
  · show par (_ ++ _) 0 = -1
    rw [par_push _ (by rw [addKid_len]; exact h.pos), par_addKid]; exact h.par0
  · intro i h1 h2
    have h2 : i < List.length _ := h2
    rw [hlen] at h2
    show 0 ≤ par (_ ++ _) i ∧ par (_ ++ _) i < (i : Int)
    by_cases hi : i < s.ns.length
    · rw [par_push _ (by rw [addKid_len]; exact hi), par_addKid]; exact h.pars i h1 hi
    · obtain rfl : i = (addKid s.ns s.place s.ns.length).length := by rw [addKid_len]; omega
      rw [par_new]
      show 0 ≤ (s.place : Int) ∧ (s.place : Int) < _
      rw [addKid_len]
      omega
  · intro p k hk
    have hk : k ∈ kidsOf (_ ++ _) p := hk
    show _ ∧ k < ((List.length _ : Nat) : Int)
    rw [hlen]
    by_cases hp : p < s.ns.length
    · rw [kids_push _ (by rw [addKid_len]; exact hp), kids_addKid] at hk
      by_cases hpp : s.place = p ∧ p < s.ns.length
      · rw [if_pos hpp] at hk
        rcases List.mem_append.1 hk with hk | hk
        · have := h.kids p k hk; omega
        · have : k = (s.ns.length : Int) := by simpa using hk
          omega
      · rw [if_neg hpp] at hk
        have := h.kids p k hk; omega
    · by_cases hp2 : p = (addKid s.ns s.place s.ns.length).length
      · rw [hp2, kids_new] at hk
        have hk : k ∈ n.kids := hk
        rw [hn] at hk; cases hk
      · rw [addKid_len] at hp2
        rw [kids_none (by rw [hlen]; omega)] at hk; cases hk
  · intro p
    show (kidsOf (_ ++ _) p).length + 1 ≤ List.length _
    rw [hlen]
    by_cases hp : p < s.ns.length
    · rw [kids_push _ (by rw [addKid_len]; exact hp), kids_addKid]
      have := h.kcnt p
      by_cases hpp : s.place = p ∧ p < s.ns.length
      · rw [if_pos hpp, List.length_append, List.length_singleton]; omega
      · rw [if_neg hpp]; omega
    · by_cases hp2 : p = (addKid s.ns s.place s.ns.length).length
      · rw [hp2, kids_new]
        show n.kids.length + 1 ≤ _
        rw [hn]
        exact Nat.succ_le_succ (Nat.zero_le _)
      · rw [addKid_len] at hp2
        rw [kids_none (by rw [hlen]; omega)]
        exact Nat.succ_le_succ (Nat.zero_le _)
theorem find_mem {l : List Nat} {p : Nat → Bool} {k : Nat} (h : l.find? p = some k) : k ∈ l ∧ p k = true := ⟨List.mem_of_find?_eq_some h, List.find?_some h⟩
theorem close_ok {s : St} (h : Ok s) (name : List UInt8) : Ok (closeS s name) := by
  unfold closeS
  cases hf : (up s.ns s.place).find? (fun k => decide (0 < k) && decide (tagOf s.ns k = name)) with
  | none => exact h
  | some k =>
    obtain ⟨hm, hp⟩ := find_mem hf
    have hk := up_lt hm
    have hp : 0 < k := by simp at hp; exact hp.1
    have := h.pars k hp hk
    exact ⟨h.pos, h.few, by show (par s.ns k).toNat < s.ns.length; omega, h.par0, h.pars, h.kids, h.kcnt⟩
theorem take_ok {s s' : St} {t : Tk} (h : Ok s) (ht : take s t = .ok s') : Ok s' := by
  unfold take at ht
  split at ht
  · split at ht
    · unfold openS at ht
      split at ht
      · injection ht with ht; subst ht; exact h
      · split at ht
        · cases ht
        · rename_i s1 h1
          obtain ⟨h2, h3, -, -⟩ := add_ok h rfl h1
          injection ht with ht
          subst ht
          split
          · exact h2
          · exact ⟨h2.pos, h2.few, by show s1.ns.length - 1 < s1.ns.length; have := h2.pos; omega, h2.par0, h2.pars, h2.kids, h2.kcnt⟩
    · split at ht
      · unfold textS at ht
        split at ht
        · injection ht with ht; subst ht; exact h
        · split at ht
          · injection ht with ht; subst ht; exact more_ok h _
          · split at ht
            · cases ht
            · rename_i s1 h1
              obtain ⟨h2, -⟩ := add_ok h rfl h1
              injection ht with ht
              subst ht
              exact more_ok h2 _
      · injection ht with ht; subst ht; exact close_ok h _
  · cases ht
theorem run_ok : ∀ (ts : List Tk) {s s' : St}, Ok s → run s ts = .ok s' → Ok s' := by
  intro ts
  induction ts with
  | nil => intro s s' h hr; injection hr with hr; subst hr; exact h
  | cons t r ih =>
    intro s s' h hr
    have hr : (match take s t with | .error e => Except.error e | .ok s' => run s' r) = .ok s' := hr
    cases ht : take s t with
    | error e => rw [ht] at hr; cases hr
    | ok s1 => rw [ht] at hr; exact ih (take_ok h ht) hr
theorem run_append (ts us : List Tk) : ∀ (s : St), run s (ts ++ us) = match run s ts with | .error e => .error e | .ok s' => run s' us := by
  induction ts with
  | nil => intro s; rfl
  | cons t r ih =>
    intro s
    show (match take s t with | .error e => Except.error e | .ok s' => run s' (r ++ us)) = _
    show _ = match (match take s t with | .error e => Except.error e | .ok s' => run s' r) with | .error e => Except.error e | .ok s' => run s' us
    cases take s t with
    | error e => rfl
    | ok s1 => exact ih s1
end Tre
end Go.Proofs.YteopighhhcikcaaGreatDoor
/- The plain mathematics of documents: texts told, elements opened, closings of what isn't open. Conditions: none. -/
namespace Go.Proofs.YteopighhhcikcaaGreatDoor
namespace Tre
open Tok
/-! ### texts told, elements opened -/
def allTx (ns : List Nd) : List UInt8 := (ns.map (·.text)).flatten
def toldTx (ts : List Tk) : List UInt8 := (ts.map (fun t => if t.kind = 3 then t.text else [])).flatten
def elems (ns : List Nd) : Nat := ns.countP (fun n => decide (n.tag ≠ []))
def opens (ts : List Tk) : Nat := ts.countP (fun t => decide (t.kind = 1 ∧ t.name ≠ rootT))
theorem allTx_addKid (ns : List Nd) (p : Nat) (k : Int) : allTx (addKid ns p k) = allTx ns := by
  unfold allTx addKid
  congr 1
  apply List.ext_getElem?
  intro i
  rw [List.getElem?_map, List.getElem?_map, List.getElem?_modify]
  cases ns[i]? with
  | none => rfl
  | some n => by_cases h : p = i <;> simp [h]
theorem elems_map {ns ms : List Nd} (h : ns.map (·.tag) = ms.map (·.tag)) : elems ns = elems ms := by
  have e : ∀ l : List Nd, elems l = (l.map (·.tag)).countP (fun t => decide (t ≠ [])) := fun l => by unfold elems; rw [List.countP_map]; rfl
  rw [e, e, h]
theorem tags_addKid (ns : List Nd) (p : Nat) (k : Int) : (addKid ns p k).map (·.tag) = ns.map (·.tag) := by
  unfold addKid
  apply List.ext_getElem?
  intro i
  rw [List.getElem?_map, List.getElem?_map, List.getElem?_modify]
  cases ns[i]? with
  | none => rfl
  | some n => by_cases h : p = i <;> simp [h]
theorem tags_more (ns : List Nd) (x : List UInt8) : (more ns x).map (·.tag) = ns.map (·.tag) := by
  unfold more
  apply List.ext_getElem?
  intro i
  rw [List.getElem?_map, List.getElem?_map, List.getElem?_modify]
  cases ns[i]? with
  | none => rfl
  | some n => by_cases h : ns.length - 1 = i <;> simp [h]
theorem allTx_more {ns : List Nd} (h : 0 < ns.length) (x : List UInt8) : allTx (more ns x) = allTx ns ++ x := by
  obtain ⟨ms, n, rfl⟩ : ∃ ms n, ns = ms ++ [n] := ⟨ns.dropLast, ns.getLast (List.ne_nil_of_length_pos h), (List.dropLast_concat_getLast _).symm⟩
  have e : more (ms ++ [n]) x = ms ++ [{ n with text := n.text ++ x }] := by
    apply List.ext_getElem?
    intro i
    rw [more_get, get_push, get_push]
    rw [List.length_append, List.length_singleton, Nat.add_sub_cancel]
    by_cases h1 : ms.length = i
    · subst h1
      simp
    · rw [if_neg h1]
      by_cases h2 : i < ms.length
      · rw [if_pos h2, if_pos h2]
      · rw [if_neg h2, if_neg h2, if_neg (fun e => h1 e.symm), if_neg (fun e => h1 e.symm)]
  rw [e]
  unfold allTx
  simp
theorem allTx_push (ns : List Nd) (n : Nd) : allTx (ns ++ [n]) = allTx ns ++ n.text := by unfold allTx; simp
theorem elems_push (ns : List Nd) (n : Nd) : elems (ns ++ [n]) = elems ns + (if n.tag ≠ [] then 1 else 0) := by
  unfold elems
  rw [List.countP_append, List.countP_singleton]
  by_cases h : n.tag = [] <;> simp [h]
theorem name_ne {l : List UInt8} (h : nameB l = true) : l ≠ [] := by
  rintro rfl
  exact absurd h (by rw [show nameB [] = false from nameB_nil]; decide)
theorem take_texts {s s' : St} {t : Tk} (h : Ok s) (ht : take s t = .ok s') : allTx s'.ns = allTx s.ns ++ (if t.kind = 3 then t.text else []) ∧ elems s'.ns = elems s.ns + (if t.kind = 1 ∧ t.name ≠ rootT then 1 else 0) := by
  unfold take at ht
  split at ht
  · rename_i hm
    split at ht
    · rename_i hk
      have hn : t.name ≠ [] := by
        unfold mayTk at hm
        rw [if_pos hk] at hm
        exact name_ne (by simp at hm; exact hm.1)
      rw [if_neg (by omega : ¬ t.kind = 3), List.append_nil]
      unfold openS at ht
      split at ht
      · rename_i hr
        injection ht with ht; subst ht
        rw [if_neg (fun e => e.2 hr)]
        exact ⟨rfl, rfl⟩
      · rename_i hr
        split at ht
        · cases ht
        · rename_i s1 h1
          obtain ⟨-, -, -, h2, -⟩ := add_ok h rfl h1
          have e1 : s'.ns = s1.ns := by
            injection ht with ht; subst ht
            split <;> rfl
          rw [e1, h2, allTx_push, allTx_addKid, elems_push, elems_map (tags_addKid _ _ _), if_pos (show t.name ≠ [] from hn), if_pos ⟨hk, hr⟩]
          exact ⟨List.append_nil _, rfl⟩
    · rename_i hk
      rw [if_neg (fun e => hk e.1 : ¬ (t.kind = 1 ∧ t.name ≠ rootT))]
      split at ht
      · rename_i hk3
        rw [if_pos hk3]
        unfold textS at ht
        split at ht
        · rename_i hx
          injection ht with ht; subst ht
          rw [hx, List.append_nil]
          exact ⟨rfl, rfl⟩
        · split at ht
          · injection ht with ht; subst ht
            exact ⟨allTx_more h.pos _, elems_map (tags_more _ _)⟩
          · split at ht
            · cases ht
            · rename_i s1 h1
              obtain ⟨h3, -, -, h2, -⟩ := add_ok h rfl h1
              injection ht with ht; subst ht
              refine ⟨?_, ?_⟩
              · show allTx (more s1.ns _) = _
                rw [allTx_more h3.pos, h2, allTx_push, allTx_addKid]
                simp
              · show elems (more s1.ns _) = _
                rw [elems_map (tags_more _ _), h2, elems_push, elems_map (tags_addKid _ _ _)]
                rfl
      · rename_i hk3
        rw [if_neg hk3, List.append_nil]
        injection ht with ht; subst ht
        unfold closeS
        split <;> exact ⟨rfl, rfl⟩
  · cases ht
theorem run_texts : ∀ (ts : List Tk) {s s' : St}, Ok s → run s ts = .ok s' → allTx s'.ns = allTx s.ns ++ toldTx ts ∧ elems s'.ns = elems s.ns + opens ts := by
  intro ts
  induction ts with
  | nil => intro s s' h hr; injection hr with hr; subst hr; exact ⟨(List.append_nil _).symm, rfl⟩
  | cons t r ih =>
    intro s s' h hr
    have hr : (match take s t with | .error e => Except.error e | .ok s' => run s' r) = .ok s' := hr
    cases ht : take s t with
    | error e => rw [ht] at hr; cases hr
    | ok s1 =>
      rw [ht] at hr
      obtain ⟨h1, h2⟩ := take_texts h ht
      obtain ⟨h3, h4⟩ := ih (take_ok h ht) hr
      refine ⟨?_, ?_⟩
      · rw [h3, h1]
        unfold toldTx
        simp
      · rw [h4, h2]
        unfold opens
        rw [List.countP_cons]
        by_cases hc : t.kind = 1 ∧ t.name ≠ rootT
        · rw [if_pos hc, if_pos (by simpa using hc)]; omega
        · rw [if_neg hc, if_neg (by simpa using hc)]; omega
theorem build_texts {ts : List Tk} {ns : List Nd} (h : build ts = (ns, 0)) (hz : ns ≠ []) : allTx ns = toldTx ts ∧ elems ns = 1 + opens ts := by
  unfold build at h
  cases hr : run st0 ts with
  | error e => rw [hr] at h; injection h with h; exact absurd h.symm hz
  | ok s =>
    rw [hr] at h
    injection h with h
    obtain ⟨h1, h2⟩ := run_texts ts ok0 hr
    rw [h] at h1 h2
    exact ⟨h1, h2⟩
/-- An error's number is not 0, and a document that is built is not empty. -/
theorem take_err {s : St} {t : Tk} {e : Nat} (h : take s t = .error e) : e = 2 ∨ e = 3 ∨ e = 5 := by
  have ha : ∀ (s : St) (n : Nd) (e : Nat), add s n = .error e → e = 2 ∨ e = 3 ∨ e = 5 := by
    intro s n e h
    unfold add at h
    split at h
    · injection h with h; omega
    · split at h
      · injection h with h; omega
      · cases h
  unfold take at h
  split at h
  · split at h
    · unfold openS at h
      split at h
      · cases h
      · split at h
        · rename_i h1
          injection h with h; subst h
          exact ha _ _ _ h1
        · cases h
    · split at h
      · unfold textS at h
        split at h
        · cases h
        · split at h
          · cases h
          · split at h
            · rename_i h1
              injection h with h; subst h
              exact ha _ _ _ h1
            · cases h
      · cases h
  · injection h with h; omega
theorem run_err : ∀ (ts : List Tk) {s : St} {e : Nat}, run s ts = .error e → e = 2 ∨ e = 3 ∨ e = 5 := by
  intro ts
  induction ts with
  | nil => intro s e h; cases h
  | cons t r ih =>
    intro s e h
    have h : (match take s t with | .error e => Except.error e | .ok s' => run s' r) = .error e := h
    cases ht : take s t with
    | error e' => rw [ht] at h; injection h with h; subst h; exact take_err ht
    | ok s1 => rw [ht] at h; exact ih h
theorem build_cases (ts : List Tk) : (∃ s, run st0 ts = .ok s ∧ Ok s ∧ build ts = (s.ns, 0)) ∨ (∃ e, build ts = ([], e) ∧ (e = 2 ∨ e = 3 ∨ e = 5)) := by
  unfold build
  cases hr : run st0 ts with
  | error e => exact .inr ⟨e, rfl, run_err ts hr⟩
  | ok s => exact .inl ⟨s, rfl, run_ok ts ok0 hr, rfl⟩
/-! ### closings of what isn't open -/
def Free (s : St) (name : List UInt8) : Prop := ∀ i, 0 < i → tagOf s.ns i ≠ name
theorem find_no {l : List Nat} {p : Nat → Bool} (h : ∀ k ∈ l, p k = false) : l.find? p = none := List.find?_eq_none.2 fun k hk => by rw [h k hk]; decide
theorem close_free {s : St} {name : List UInt8} (h : Free s name) : closeS s name = s := by
  unfold closeS
  rw [find_no fun k _ => by
    by_cases h0 : 0 < k
    · simp [h k h0]
    · simp [h0]]
theorem tag_none {ns : List Nd} {i : Nat} (h : ns.length ≤ i) : tagOf ns i = [] := by unfold tagOf; rw [List.getElem?_eq_none h]
theorem add_free {s s' : St} {n : Nd} {name : List UInt8} (h : Ok s) (hn : n.kids = []) (ha : add s n = .ok s') (hf : Free s name) (ht : n.tag ≠ name) (hne : name ≠ []) : Free s' name := by
  obtain ⟨-, -, -, e, -⟩ := add_ok h hn ha
  intro i hi
  rw [e]
  by_cases h1 : i < s.ns.length
  · rw [tag_push _ (by rw [addKid_len]; exact h1), tag_addKid]; exact hf i hi
  · by_cases h2 : i = (addKid s.ns s.place s.ns.length).length
    · rw [h2, tag_new]; exact ht
    · rw [addKid_len] at h2
      rw [tag_none (by rw [List.length_append, addKid_len, List.length_singleton]; omega)]
      exact fun e => hne e.symm
theorem take_free {s s' : St} {t : Tk} {name : List UInt8} (h : Ok s) (ht : take s t = .ok s') (hf : Free s name) (hne : name ≠ []) (hk : ¬(t.kind = 1 ∧ t.name = name)) : Free s' name := by
  unfold take at ht
  split at ht
  · split at ht
    · rename_i hk1
      unfold openS at ht
      split at ht
      · injection ht with ht; subst ht; exact hf
      · split at ht
        · cases ht
        · rename_i s1 h1
          have h2 := add_free h rfl h1 hf (fun e => hk ⟨hk1, e⟩) hne
          injection ht with ht; subst ht
          split
          · exact h2
          · exact h2
    · split at ht
      · unfold textS at ht
        split at ht
        · injection ht with ht; subst ht; exact hf
        · split at ht
          · injection ht with ht; subst ht
            intro i hi
            show tagOf (more s.ns _) i ≠ _
            rw [tag_more]; exact hf i hi
          · split at ht
            · cases ht
            · rename_i s1 h1
              have h2 := add_free h rfl h1 hf (fun e => hne e.symm) hne
              injection ht with ht; subst ht
              intro i hi
              show tagOf (more s1.ns _) i ≠ _
              rw [tag_more]; exact h2 i hi
      · injection ht with ht; subst ht
        unfold closeS
        split <;> exact hf
  · cases ht
theorem run_free : ∀ (ts : List Tk) {s s' : St} {name : List UInt8}, Ok s → run s ts = .ok s' → Free s name → name ≠ [] → (∀ t ∈ ts, ¬(t.kind = 1 ∧ t.name = name)) → Free s' name := by
  intro ts
  induction ts with
  | nil => intro s s' name h hr hf _ _; injection hr with hr; subst hr; exact hf
  | cons t r ih =>
    intro s s' name h hr hf hne hk
    have hr : (match take s t with | .error e => Except.error e | .ok s' => run s' r) = .ok s' := hr
    cases ht : take s t with
    | error e => rw [ht] at hr; cases hr
    | ok s1 =>
      rw [ht] at hr
      exact ih (take_ok h ht) hr (take_free h ht hf hne (hk t List.mem_cons_self)) hne (fun u hu => hk u (List.mem_cons_of_mem _ hu))
theorem build_closed (ts us : List Tk) (name : List UInt8) (hn : nameB name = true) (hk : ∀ t ∈ ts, ¬(t.kind = 1 ∧ t.name = name)) : build (ts ++ (⟨2, name, [], []⟩ :: ⟨3, [], [], []⟩ :: us)) = build (ts ++ us) := by
  have e : run st0 (ts ++ (⟨2, name, [], []⟩ :: ⟨3, [], [], []⟩ :: us)) = run st0 (ts ++ us) := by
    rw [run_append, run_append]
    cases hr : run st0 ts with
    | error e => rfl
    | ok s =>
      have hf : Free s name := run_free ts ok0 hr (fun i hi => by
        show tagOf [_] i ≠ _
        rw [tag_none (by show 1 ≤ i; omega)]
        exact fun e => name_ne hn e.symm) (name_ne hn) hk
      have t1 : take s ⟨2, name, [], []⟩ = .ok s := by
        unfold take mayTk
        show (if nameB name = true then Except.ok (closeS s name) else _) = _
        rw [if_pos hn, close_free hf]
      have t2 : take s ⟨3, [], [], []⟩ = .ok s := rfl
      show run s (⟨2, name, [], []⟩ :: ⟨3, [], [], []⟩ :: us) = run s us
      show (match take s ⟨2, name, [], []⟩ with | .error e => Except.error e | .ok s' => run s' (⟨3, [], [], []⟩ :: us)) = _
      rw [t1]
      show (match take s ⟨3, [], [], []⟩ with | .error e => Except.error e | .ok s' => run s' us) = _
      rw [t2]
  unfold build
  rw [e]
end Tre
end Go.Proofs.YteopighhhcikcaaGreatDoor
/- The plain mathematics of documents: what is built may be, first half: a node more. Conditions: none. -/
namespace Go.Proofs.YteopighhhcikcaaGreatDoor
namespace Tre
open Tok
/-! ### what may be -/
def mayRoot (n : Nd) : Bool := decide (n.parent = -1) && decide (n.tag = rootT) && decide (n.text = []) && decide (n.attrs = [])
def mayNd (n : Nd) : Bool :=
  if n.tag = [] then decide (n.text ≠ []) && decide (n.attrs = []) && decide (n.kids = [])
  else if n.tag = imgT ∧ n.kids ≠ [] then false else nameB n.tag && decide (n.tag ≠ rootT) && decide (n.text = []) && mayAts n.attrs
def stands (ns : List Nd) (k : Nat) : Bool := match (up ns ((k : Int) - 1)).find? (fun a : Nat => decide ((a : Int) = par ns k)) with
  | some a => decide ((up ns a).length ≤ 12)
  | none => false
def kidL (ns : List Nd) (p : Nat) : List Int := ((List.range ns.length).filter (fun k => decide (0 < k) && decide (par ns k = p))).map (fun k : Nat => (k : Int))
def side2 (ns : List Nd) : List Int → Bool
  | a :: b :: r => (decide (tagOf ns a.toNat = []) && decide (tagOf ns b.toNat = [])) || side2 ns (b :: r)
  | _ => false
def mayOne (ns : List Nd) (k : Nat) : Bool := match ns[k]? with
  | some n => mayNd n
  | none => false
def mayP (ns : List Nd) : Bool := match ns with
  | [] => false
  | r :: _ => decide (ns.length ≤ 60) && mayRoot r && ((List.range ns.length).all fun k => k == 0 || (stands ns k && mayOne ns k)) && ((List.range ns.length).all fun p => kidsOf ns p == kidL ns p) && !(ns.any fun n => side2 ns n.kids)
theorem up_yes (ns : List Nd) (n : Nat) (h : n < ns.length) : up ns n = n :: upF ns n n (par ns n) := upF_yes ns ns.length n h
theorem upF_up (ns : List Nd) (b a : Nat) (h : a < b) (hb : b ≤ ns.length) : upF ns b b a = up ns a := by rw [upF_yes ns b a h, up_yes ns a (by omega)]
theorem up_same {ns ms : List Nd} {j : Nat} (h1 : j < ns.length) (h2 : j < ms.length) (h : ∀ k, k ≤ j → par ns k = par ms k) : up ns j = up ms j := by
  rw [up_yes ns j h1, up_yes ms j h2, h j (Nat.le_refl _), upF_same j _ (fun k hk => h k (by omega))]
theorem up_step {s : St} (h : Ok s) {k : Nat} (hk : k < s.ns.length) (h0 : 0 < k) : up s.ns k = k :: up s.ns (par s.ns k) ∧ ∃ a : Nat, par s.ns k = a ∧ a < k := by
  obtain ⟨h1, h2⟩ := h.pars k h0 hk
  obtain ⟨a, ha⟩ : ∃ a : Nat, par s.ns k = a := ⟨(par s.ns k).toNat, by omega⟩
  refine ⟨?_, a, ha, by omega⟩
  rw [up_yes _ k hk, ha, upF_up _ k a (by omega) (by omega)]
theorem up_zero {s : St} (h : Ok s) : up s.ns (0 : Nat) = [0] := by
  rw [up_yes _ 0 h.pos, h.par0]
  rfl
theorem up_le {ns : List Nd} {n c : Nat} (h : n < ns.length) (hc : c ∈ up ns n) : c ≤ n := by
  rw [up_yes ns n h] at hc
  rcases List.mem_cons.1 hc with rfl | hc
  · exact Nat.le_refl _
  · exact Nat.le_of_lt (upF_lt ns n _ c hc)
/-- What is above one that is above. -/
theorem up_trans {s : St} (h : Ok s) : ∀ (b : Nat), b < s.ns.length → ∀ a, a ∈ up s.ns b → ∀ c, c ∈ up s.ns a → c ∈ up s.ns b := by
  intro b
  induction b using Nat.strongRecOn with
  | _ b ih =>
    intro hb a ha c hc
    by_cases h0 : b = 0
    · subst h0
      rw [up_zero h] at ha
      obtain rfl : a = 0 := by simpa using ha
      exact hc
    · obtain ⟨e, a', ha', hlt⟩ := up_step h hb (by omega)
      rw [e] at ha
      rcases List.mem_cons.1 ha with rfl | ha
      · exact hc
      · rw [e]
        rw [ha'] at ha ⊢
        exact List.mem_cons_of_mem _ (ih a' hlt (by omega) a ha c hc)
structure Inv (s : St) : Prop where
  ok : Ok s
  root : ∃ n, s.ns[0]? = some n ∧ mayRoot n = true
  one : ∀ i, 0 < i → ∀ n, s.ns[i]? = some n → mayNd n = true
  stand : ∀ k, 0 < k → k < s.ns.length → ∃ a : Nat, par s.ns k = a ∧ a ∈ up s.ns ((k - 1 : Nat) : Int) ∧ (up s.ns a).length ≤ 12
  kids : ∀ p, p < s.ns.length → kidsOf s.ns p = kidL s.ns p
  side : ∀ p, side2 s.ns (kidsOf s.ns p) = false
  path : s.place ∈ up s.ns ((s.ns.length - 1 : Nat) : Int)
  last : ∀ c, c ∈ up s.ns s.place → 0 < c → (kidsOf s.ns (par s.ns c).toNat).getLast? = some (c : Int)
  ptag : ∀ c, c ∈ up s.ns s.place → tagOf s.ns c ≠ [] ∧ tagOf s.ns c ≠ imgT
  te : ∀ k, (kidsOf s.ns s.place).getLast? = some k → tagOf s.ns k.toNat = [] → k = ((s.ns.length - 1 : Nat) : Int)
theorem inv0 : Inv st0 := by
  refine ⟨ok0, ⟨_, rfl, by decide⟩, ?_, ?_, ?_, ?_, ?_, ?_, ?_, ?_⟩
  · intro i h0 n hn
    match i, h0 with
    | i + 1, _ => cases hn
  · intro k h0 hk
    have : k < 1 := hk
    omega
  · intro p hp
    have : p < 1 := hp
    obtain rfl : p = 0 := by omega
    decide
  · intro p
    match p with
    | 0 => rfl
    | p + 1 => rfl
  · decide
  · intro c hc h0
    have : c ∈ [0] := hc
    simp at this
    omega
  · intro c hc
    have : c ∈ [0] := hc
    simp at this
    subst this
    decide
  · intro k hk
    cases hk
theorem up_short {s : St} (h : Inv s) (k : Nat) (hk : k < s.ns.length) : (up s.ns k).length ≤ 13 := by
  by_cases h0 : k = 0
  · subst h0
    rw [up_zero h.ok]
    decide
  · obtain ⟨a, ha, -, hl⟩ := h.stand k (by omega) hk
    rw [(up_step h.ok hk (by omega)).1, ha, List.length_cons]
    omega
theorem side2_snoc (ns : List Nd) (j : Int) : ∀ (l : List Int), side2 ns l = false → (∀ k, l.getLast? = some k → ¬(tagOf ns k.toNat = [] ∧ tagOf ns j.toNat = [])) → side2 ns (l ++ [j]) = false := by
  intro l
  induction l with
  | nil => intro _ _; rfl
  | cons a r ih =>
    intro h hl
    cases r with
    | nil =>
      have := hl a rfl
      show ((decide (tagOf ns a.toNat = []) && decide (tagOf ns j.toNat = [])) || false) = false
      by_cases h1 : tagOf ns a.toNat = []
      · have h2 : ¬ tagOf ns j.toNat = [] := fun e => this ⟨h1, e⟩
        simp [h2]
      · simp [h1]
    | cons b r =>
      have h : ((decide (tagOf ns a.toNat = []) && decide (tagOf ns b.toNat = [])) || side2 ns (b :: r)) = false := h
      rw [Bool.or_eq_false_iff] at h
      show ((decide (tagOf ns a.toNat = []) && decide (tagOf ns b.toNat = [])) || side2 ns ((b :: r) ++ [j])) = false
      rw [h.1, Bool.false_or]
      exact ih h.2 (fun k hk => hl k (by rw [← hk]; simp [List.getLast?_cons]))
theorem side2_same {ns ms : List Nd} : ∀ (l : List Int), (∀ k ∈ l, tagOf ns k.toNat = tagOf ms k.toNat) → side2 ns l = side2 ms l := by
  intro l
  induction l with
  | nil => intro _; rfl
  | cons a r ih =>
    intro h
    cases r with
    | nil => rfl
    | cons b r =>
      show ((decide (tagOf ns a.toNat = []) && decide (tagOf ns b.toNat = [])) || side2 ns (b :: r)) = ((decide (tagOf ms a.toNat = []) && decide (tagOf ms b.toNat = [])) || side2 ms (b :: r))
      rw [h a List.mem_cons_self, h b (List.mem_cons_of_mem _ List.mem_cons_self), ih (fun k hk => h k (List.mem_cons_of_mem _ hk))]
theorem kidL_same {ns ms : List Nd} (hl : ns.length = ms.length) (h : ∀ k, k < ns.length → par ns k = par ms k) (p : Nat) : kidL ns p = kidL ms p := by
  unfold kidL
  rw [← hl]
  congr 1
  apply List.filter_congr
  intro k hk
  rw [h k (List.mem_range.1 hk)]
theorem mayNd_kids {n : Nd} (h : mayNd n = true) (h1 : n.tag ≠ []) (h2 : n.tag ≠ imgT) (ks : List Int) : mayNd { n with kids := ks } = true := by
  unfold mayNd at h ⊢
  rw [if_neg h1, if_neg (fun e => h2 e.1)] at h
  show (if n.tag = [] then _ else if n.tag = imgT ∧ ks ≠ [] then false else _) = true
  rw [if_neg h1, if_neg (fun e => h2 e.1)]
  exact h
/-- One node more. -/
theorem inv_push {s : St} {n : Nd} {pl : Nat} (h : Inv s) (h13 : (up s.ns s.place).length ≠ 13) (h60 : s.ns.length ≠ 60) (hk : n.kids = []) (hm : mayNd n = true) (ht : n.tag = [] → endsText s = false)
    (hpl : pl = s.place ∨ (s.ns.length = pl ∧ n.tag ≠ [] ∧ n.tag ≠ imgT)) : Inv ⟨addKid s.ns s.place s.ns.length ++ [{ n with parent := (s.place : Int) }], pl⟩ := by
  have hadd : add s n = .ok ⟨addKid s.ns s.place s.ns.length ++ [{ n with parent := (s.place : Int) }], s.place⟩ := by
    unfold add
    rw [if_neg h13, if_neg h60]
  obtain ⟨hok, hlen, -, -, -⟩ := add_ok h.ok hk hadd
  have hpl0 := h.ok.place
  have hpos := h.ok.pos
  generalize hL : s.ns.length = L at *
  generalize hms : addKid s.ns s.place (L : Int) = ms at *
  have hml : ms.length = L := by rw [← hms, addKid_len, hL]
  have hlen : (ms ++ [{ n with parent := (s.place : Int) }]).length = L + 1 := hlen
  have hpar : ∀ i, i < L → par (ms ++ [{ n with parent := (s.place : Int) }]) i = par s.ns i := fun i hi => by rw [par_push _ (by omega), ← hms, par_addKid]
  have hparL : par (ms ++ [{ n with parent := (s.place : Int) }]) L = (s.place : Int) := by rw [← hml, par_new]
  have htag : ∀ i, i < L → tagOf (ms ++ [{ n with parent := (s.place : Int) }]) i = tagOf s.ns i := fun i hi => by rw [tag_push _ (by omega), ← hms, tag_addKid]
  have htagL : tagOf (ms ++ [{ n with parent := (s.place : Int) }]) L = n.tag := by rw [← hml, tag_new]
  have hkid : ∀ i, i < L → kidsOf (ms ++ [{ n with parent := (s.place : Int) }]) i = if s.place = i then kidsOf s.ns i ++ [(L : Int)] else kidsOf s.ns i := fun i hi => by
    rw [kids_push _ (by omega), ← hms, kids_addKid]
    by_cases e : s.place = i
    · rw [if_pos ⟨e, by omega⟩, if_pos e]
    · rw [if_neg (fun h => e h.1), if_neg e]
  have hkidL : kidsOf (ms ++ [{ n with parent := (s.place : Int) }]) L = [] := by rw [← hml, kids_new]; exact hk
  have hget : ∀ i, i < L → (ms ++ [{ n with parent := (s.place : Int) }])[i]? = if s.place = i then (s.ns[i]?).map (fun n => { n with kids := n.kids ++ [(L : Int)] }) else s.ns[i]? := fun i hi => by
    rw [List.getElem?_append_left (by omega), ← hms, addKid_get]
  have hgetL : (ms ++ [{ n with parent := (s.place : Int) }])[L]? = some { n with parent := (s.place : Int) } := by rw [get_push, hml, if_neg (Nat.lt_irrefl _), if_pos rfl]
  generalize ms ++ [{ n with parent := (s.place : Int) }] = ns2 at *
  have hup : ∀ j : Nat, j < L → up ns2 j = up s.ns j := fun j hj => up_same (by omega) (by omega) (fun k hk => hpar k (by omega))
  have hok2 : Ok ⟨ns2, s.place⟩ := hok
  have hupL : up ns2 (L : Nat) = L :: up s.ns s.place := by
    have := (up_step hok2 (k := L) (by show L < ns2.length; omega) hpos).1
    rw [hparL] at this
    rw [this, hup _ hpl0]
  have hkid2 : ∀ q, q < L → q ≠ s.place → kidsOf ns2 q = kidsOf s.ns q := fun q hq hne => by rw [hkid q hq, if_neg (fun e => hne e.symm)]
  have hlast : ∀ c, c ∈ up s.ns s.place → 0 < c → (kidsOf ns2 (par ns2 c).toNat).getLast? = some (c : Int) := fun c hc h0 => by
    have hcl := up_le (by omega) hc
    obtain ⟨-, a, ha, hlt⟩ := up_step h.ok (k := c) (by omega) h0
    have := h.last c hc h0
    rw [hpar c (by omega), hkid2 _ (by omega) (by omega)]
    exact this
  refine ⟨?_, ?_, ?_, ?_, ?_, ?_, ?_, ?_, ?_, ?_⟩
  · rcases hpl with rfl | ⟨rfl, -, -⟩
    · exact hok
    · exact ⟨hok.pos, hok.few, by show L < ns2.length; omega, hok.par0, hok.pars, hok.kids, hok.kcnt⟩
  · obtain ⟨r, hr, hmr⟩ := h.root
    by_cases e : s.place = 0
    · exact ⟨{ r with kids := r.kids ++ [(L : Int)] }, by show ns2[0]? = _; rw [hget 0 hpos, if_pos e, hr]; rfl, hmr⟩
    · exact ⟨r, by show ns2[0]? = _; rw [hget 0 hpos, if_neg e, hr], hmr⟩
  · intro i h0 m hmi
    have hmi : ns2[i]? = some m := hmi
    by_cases hi : i < L
    · rw [hget i hi] at hmi
      by_cases e : s.place = i
      · rw [if_pos e] at hmi
        cases hq : s.ns[i]? with
        | none => rw [hq] at hmi; cases hmi
        | some m0 =>
          rw [hq] at hmi
          injection hmi with hmi
          subst hmi
          have hp := h.ptag i (by rw [← e, up_yes _ _ (by omega)]; exact List.mem_cons_self)
          rw [tagOf_of hq] at hp
          exact mayNd_kids (h.one i h0 m0 hq) hp.1 hp.2 _
      · rw [if_neg e] at hmi
        exact h.one i h0 m hmi
    · by_cases e : i = L
      · subst e
        rw [hgetL] at hmi
        injection hmi with hmi
        subst hmi
        exact hm
      · rw [List.getElem?_eq_none (by omega)] at hmi; cases hmi
  · intro k h0 hk2
    have hk2 : k < ns2.length := hk2
    show ∃ a : Nat, par ns2 k = a ∧ a ∈ up ns2 ((k - 1 : Nat) : Int) ∧ (up ns2 a).length ≤ 12
    by_cases hi : k < L
    · obtain ⟨a, h1, h2, h3⟩ := h.stand k h0 (by omega)
      have := up_le (by omega) h2
      exact ⟨a, by rw [hpar k hi]; exact h1, by rw [hup _ (by omega)]; exact h2, by rw [hup _ (by omega)]; exact h3⟩
    · obtain rfl : k = L := by omega
      refine ⟨s.place, hparL, by rw [hup _ (by omega), ← hL]; exact h.path, ?_⟩
      rw [hup _ (by omega)]
      have := up_short h s.place (by omega)
      omega
  · intro p hp
    have hp : p < ns2.length := hp
    show kidsOf ns2 p = kidL ns2 p
    have hkl : kidL ns2 p = kidL s.ns p ++ (if s.place = p then [(L : Int)] else []) := by
      unfold kidL
      rw [hlen, List.range_succ, List.filter_append, List.map_append, hL]
      congr 1
      · congr 1
        apply List.filter_congr
        intro k hk
        rw [hpar k (List.mem_range.1 hk)]
      · by_cases e : s.place = p
        · rw [if_pos e, List.filter_cons, if_pos (by rw [hparL, e]; simp; exact hpos)]; rfl
        · rw [if_neg e, List.filter_cons, if_neg (by rw [hparL]; simp; intro _ e2; exact e (by omega))]; rfl
    rw [hkl]
    by_cases hi : p < L
    · rw [hkid p hi, ← h.kids p (by omega)]
      by_cases e : s.place = p
      · rw [if_pos e, if_pos e]
      · rw [if_neg e, if_neg e, List.append_nil]
    · obtain rfl : p = L := by omega
      rw [hkidL, if_neg (by omega), List.append_nil]
      unfold kidL
      rw [List.filter_eq_nil_iff.2]
      · rfl
      · intro k hk
        have hk := List.mem_range.1 hk
        by_cases h0 : 0 < k
        · have := (h.ok.pars k h0 hk).2
          simp
          intro _
          omega
        · simp [h0]
  · intro p
    show side2 ns2 (kidsOf ns2 p) = false
    have hin : ∀ q, ∀ k ∈ kidsOf s.ns q, tagOf ns2 k.toNat = tagOf s.ns k.toNat := fun q k hk => by
      have := h.ok.kids q k hk
      exact htag _ (by omega)
    by_cases hi : p < L
    · rw [hkid p hi]
      by_cases e : s.place = p
      · rw [if_pos e]
        refine side2_snoc ns2 _ _ (by rw [side2_same _ (hin p)]; exact h.side p) ?_
        rintro k hk2 ⟨h1, h2⟩
        rw [Int.toNat_natCast, htagL] at h2
        have := ht h2
        unfold endsText at this
        rw [e, hk2] at this
        rw [hin p k (List.mem_of_getLast? hk2)] at h1
        simp [h1] at this
      · rw [if_neg e, side2_same _ (hin p)]; exact h.side p
    · by_cases e : p = L
      · rw [e, hkidL]; rfl
      · rw [kids_none (by omega)]; rfl
  · show pl ∈ up ns2 ((ns2.length - 1 : Nat) : Int)
    rw [hlen, Nat.add_sub_cancel, hupL]
    rcases hpl with rfl | ⟨rfl, -, -⟩
    · refine List.mem_cons_of_mem _ ?_
      rw [up_yes _ _ (by omega)]
      exact List.mem_cons_self
    · exact List.mem_cons_self
  · intro c hc h0
    have hc : c ∈ up ns2 pl := hc
    show (kidsOf ns2 (par ns2 c).toNat).getLast? = some (c : Int)
    rcases hpl with rfl | ⟨rfl, -, -⟩
    · rw [hup _ hpl0] at hc
      exact hlast c hc h0
    · rw [hupL] at hc
      rcases List.mem_cons.1 hc with rfl | hc
      · rw [hparL, Int.toNat_natCast, hkid _ hpl0, if_pos rfl, List.getLast?_append]; rfl
      · exact hlast c hc h0
  · intro c hc
    have hc : c ∈ up ns2 pl := hc
    show tagOf ns2 c ≠ [] ∧ tagOf ns2 c ≠ imgT
    have hold : ∀ c, c ∈ up s.ns s.place → tagOf ns2 c ≠ [] ∧ tagOf ns2 c ≠ imgT := fun c hc => by
      have := up_le (by omega) hc
      rw [htag c (by omega)]
      exact h.ptag c hc
    rcases hpl with rfl | ⟨rfl, h1, h2⟩
    · rw [hup _ hpl0] at hc
      exact hold c hc
    · rw [hupL] at hc
      rcases List.mem_cons.1 hc with rfl | hc
      · rw [htagL]; exact ⟨h1, h2⟩
      · exact hold c hc
  · intro k hk2 ht2
    have hk2 : (kidsOf ns2 pl).getLast? = some k := hk2
    show k = ((ns2.length - 1 : Nat) : Int)
    rw [hlen, Nat.add_sub_cancel]
    rcases hpl with rfl | ⟨rfl, -, -⟩
    · rw [hkid _ hpl0, if_pos rfl, List.getLast?_append] at hk2
      simpa using hk2.symm
    · rw [hkidL] at hk2; cases hk2
end Tre
end Go.Proofs.YteopighhhcikcaaGreatDoor
namespace Go.Proofs.YteopighhhcikcaaGreatDoor
namespace Tre
open Tok
theorem more_push (ms : List Nd) (n : Nd) (x : List UInt8) : more (ms ++ [n]) x = ms ++ [{ n with text := n.text ++ x }] := by
  apply List.ext_getElem?
  intro i
  rw [more_get, get_push, get_push]
  rw [List.length_append, List.length_singleton, Nat.add_sub_cancel]
  by_cases h1 : ms.length = i
  · subst h1
    simp
  · rw [if_neg h1]
    by_cases h2 : i < ms.length
    · rw [if_pos h2, if_pos h2]
    · rw [if_neg h2, if_neg h2, if_neg (fun e => h1 e.symm), if_neg (fun e => h1 e.symm)]
theorem up_nil_of {s : St} (h : Ok s) {c : Nat} (hc : c < s.ns.length) (h0 : 0 < c) : ∃ a : Nat, par s.ns c = a ∧ a < c ∧ a ∈ up s.ns c := by
  obtain ⟨e, a, ha, hlt⟩ := up_step h hc h0
  refine ⟨a, ha, hlt, ?_⟩
  rw [e, ha]
  refine List.mem_cons_of_mem _ ?_
  rw [up_yes _ a (by omega)]
  exact List.mem_cons_self
theorem inv_close {s : St} (h : Inv s) (name : List UInt8) : Inv (closeS s name) := by
  unfold closeS
  cases hf : (up s.ns s.place).find? (fun k => decide (0 < k) && decide (tagOf s.ns k = name)) with
  | none => exact h
  | some k =>
    obtain ⟨hm, hp⟩ := find_mem hf
    have hk := up_lt hm
    have hp : 0 < k := by simp at hp; exact hp.1
    have hpl := h.ok.place
    obtain ⟨a, ha, hlt, hak⟩ := up_nil_of h.ok hk hp
    have hs : ∀ c, c ∈ up s.ns a → c ∈ up s.ns s.place := fun c hc => up_trans h.ok _ hpl k hm c (up_trans h.ok k hk a hak c hc)
    show Inv ⟨s.ns, (par s.ns k).toNat⟩
    rw [ha, Int.toNat_natCast]
    have haL : a ∈ up s.ns a := by rw [up_yes _ a (by omega)]; exact List.mem_cons_self
    refine ⟨⟨h.ok.pos, h.ok.few, by show a < s.ns.length; omega, h.ok.par0, h.ok.pars, h.ok.kids, h.ok.kcnt⟩, h.root, h.one, h.stand, h.kids, h.side, ?_, fun c hc h0 => h.last c (hs c hc) h0, fun c hc => h.ptag c (hs c hc), ?_⟩
    · exact up_trans h.ok _ (by have := h.ok.pos; omega) _ h.path a (hs a haL)
    · intro j hj ht
      have hl := h.last k hm hp
      rw [ha, Int.toNat_natCast] at hl
      have hj : (kidsOf s.ns a).getLast? = some j := hj
      rw [hl] at hj
      injection hj with hj
      subst hj
      exact absurd ht (h.ptag k hm).1
theorem last_of {s : St} (h : Inv s) (he : endsText s = true) : (kidsOf s.ns s.place).getLast? = some ((s.ns.length - 1 : Nat) : Int) ∧ tagOf s.ns (s.ns.length - 1) = [] := by
  unfold endsText at he
  split at he
  · rename_i k hk
    have ht : tagOf s.ns k.toNat = [] := by simpa using he
    have := h.te k hk ht
    rw [this] at hk ht
    rw [Int.toNat_natCast] at ht
    exact ⟨hk, ht⟩
  · cases he
theorem up_more (ns : List Nd) (x : List UInt8) (n : Int) : up (more ns x) n = up ns n := by
  unfold up
  rw [more_len]
  exact upF_same _ _ (fun k _ => par_more ns x k)
theorem inv_more {s : St} (h : Inv s) (he : endsText s = true) (x : List UInt8) : Inv ⟨more s.ns x, s.place⟩ := by
  obtain ⟨hl, ht⟩ := last_of h he
  have hpos := h.ok.pos
  have h1 : s.ns.length - 1 ≠ 0 := by
    intro e
    obtain ⟨r, hr, hm⟩ := h.root
    rw [e, tagOf_of hr] at ht
    unfold mayRoot at hm
    rw [ht] at hm
    simp [rootT] at hm
  refine ⟨more_ok h.ok x, ?_, ?_, ?_, ?_, ?_, ?_, ?_, ?_, ?_⟩
  · obtain ⟨r, hr, hm⟩ := h.root
    exact ⟨r, by show (more s.ns x)[0]? = _; rw [more_get, if_neg h1, hr], hm⟩
  · intro i h0 n hn
    have hn : (more s.ns x)[i]? = some n := hn
    rw [more_get] at hn
    by_cases e : s.ns.length - 1 = i
    · rw [if_pos e] at hn
      cases hq : s.ns[i]? with
      | none => rw [hq] at hn; cases hn
      | some m =>
        rw [hq] at hn
        injection hn with hn
        subst hn
        have hm := h.one i h0 m hq
        rw [e, tagOf_of hq] at ht
        unfold mayNd at hm ⊢
        rw [if_pos ht] at hm
        show (if m.tag = [] then _ else _) = true
        rw [if_pos ht]
        simp at hm ⊢
        exact ⟨⟨.inl hm.1.1, hm.1.2⟩, hm.2⟩
    · rw [if_neg e] at hn
      exact h.one i h0 n hn
  · intro k h0 hk
    have hk : k < (more s.ns x).length := hk
    rw [more_len] at hk
    show ∃ a : Nat, par (more s.ns x) k = a ∧ a ∈ up (more s.ns x) _ ∧ (up (more s.ns x) a).length ≤ 12
    obtain ⟨a, h1, h2, h3⟩ := h.stand k h0 hk
    exact ⟨a, by rw [par_more]; exact h1, by rw [up_more]; exact h2, by rw [up_more]; exact h3⟩
  · intro p hp
    have hp : p < (more s.ns x).length := hp
    rw [more_len] at hp
    show kidsOf (more s.ns x) p = kidL (more s.ns x) p
    rw [kids_more, kidL_same (ns := more s.ns x) (ms := s.ns) (more_len _ _) (fun k _ => par_more _ _ _)]
    exact h.kids p hp
  · intro p
    show side2 (more s.ns x) (kidsOf (more s.ns x) p) = false
    rw [kids_more, side2_same (ms := s.ns) _ (fun k _ => tag_more _ _ _)]
    exact h.side p
  · show s.place ∈ up (more s.ns x) (((more s.ns x).length - 1 : Nat) : Int)
    rw [up_more, more_len]; exact h.path
  · intro c hc h0
    have hc : c ∈ up (more s.ns x) s.place := hc
    rw [up_more] at hc
    show (kidsOf (more s.ns x) (par (more s.ns x) c).toNat).getLast? = _
    rw [par_more, kids_more]; exact h.last c hc h0
  · intro c hc
    have hc : c ∈ up (more s.ns x) s.place := hc
    rw [up_more] at hc
    show tagOf (more s.ns x) c ≠ [] ∧ tagOf (more s.ns x) c ≠ _
    rw [tag_more]; exact h.ptag c hc
  · intro k hk htk
    have hk : (kidsOf (more s.ns x) s.place).getLast? = some k := hk
    have htk : tagOf (more s.ns x) k.toNat = [] := htk
    rw [kids_more] at hk
    rw [tag_more] at htk
    show k = (((more s.ns x).length - 1 : Nat) : Int)
    rw [more_len]; exact h.te k hk htk
theorem inv_take {s s' : St} {t : Tk} (h : Inv s) (ht : take s t = .ok s') : Inv s' := by
  unfold take at ht
  split at ht
  · rename_i hm
    split at ht
    · rename_i hk1
      unfold mayTk at hm
      rw [if_pos hk1] at hm
      have hm : nameB t.name = true ∧ mayAts t.attrs = true := by simpa using hm
      unfold openS at ht
      split at ht
      · injection ht with ht; subst ht; exact h
      · rename_i hroot
        split at ht
        · cases ht
        · rename_i s1 h1
          obtain ⟨-, hlen1, -, e1, h13⟩ := add_ok h.ok rfl h1
          have h60 : s.ns.length ≠ 60 := by
            intro e
            unfold add at h1
            rw [if_neg h13, if_pos e] at h1
            cases h1
          have hne := name_ne hm.1
          have hnd : mayNd ⟨0, t.name, [], t.attrs, []⟩ = true := by
            unfold mayNd
            show (if t.name = [] then _ else if t.name = imgT ∧ ([] : List Int) ≠ [] then false else _) = true
            rw [if_neg hne, if_neg (by simp)]
            show (nameB t.name && decide (t.name ≠ rootT) && decide (([] : List UInt8) = []) && mayAts t.attrs) = true
            rw [hm.1, hm.2]
            simp [hroot]
          injection ht with ht
          subst ht
          split
          · have := inv_push (pl := s.place) h h13 h60 rfl hnd (fun e => absurd e hne) (.inl rfl)
            have hp := (add_ok h.ok rfl h1).2.2.1
            have : Inv ⟨s1.ns, s.place⟩ := by rw [e1]; exact this
            rw [← hp] at this
            exact this
          · rename_i himg
            have := inv_push (pl := s.ns.length) h h13 h60 rfl hnd (fun e => absurd e hne) (.inr ⟨rfl, hne, himg⟩)
            rw [hlen1, Nat.add_sub_cancel, e1]
            exact this
    · split at ht
      · unfold textS at ht
        split at ht
        · injection ht with ht; subst ht; exact h
        · rename_i hx
          split at ht
          · rename_i he
            injection ht with ht; subst ht; exact inv_more h he _
          · rename_i he
            split at ht
            · cases ht
            · rename_i s1 h1
              obtain ⟨-, hlen1, hp, e1, h13⟩ := add_ok h.ok rfl h1
              have h60 : s.ns.length ≠ 60 := by
                intro e
                unfold add at h1
                rw [if_neg h13, if_pos e] at h1
                cases h1
              injection ht with ht
              subst ht
              have hnd : mayNd ⟨0, [], t.text, [], []⟩ = true := by
                unfold mayNd
                rw [if_pos rfl]
                simp [hx]
              have := inv_push (pl := s.place) h h13 h60 rfl hnd (fun _ => by simpa using he) (.inl rfl)
              rw [e1, more_push, hp]
              exact this
      · injection ht with ht; subst ht; exact inv_close h _
  · cases ht
theorem inv_run : ∀ (ts : List Tk) {s s' : St}, Inv s → run s ts = .ok s' → Inv s' := by
  intro ts
  induction ts with
  | nil => intro s s' h hr; injection hr with hr; subst hr; exact h
  | cons t r ih =>
    intro s s' h hr
    have hr : (match take s t with | .error e => Except.error e | .ok s' => run s' r) = .ok s' := hr
    cases ht : take s t with
    | error e => rw [ht] at hr; cases hr
    | ok s1 => rw [ht] at hr; exact ih (inv_take h ht) hr
theorem inv_may {s : St} (h : Inv s) : mayP s.ns = true := by
  obtain ⟨r, hr, hm⟩ := h.root
  have hok := h.ok
  cases hn : s.ns with
  | nil => rw [hn] at hr; cases hr
  | cons a l =>
    rw [← hn]
    have e : mayP s.ns = (decide (s.ns.length ≤ 60) && mayRoot r && ((List.range s.ns.length).all fun k => k == 0 || (stands s.ns k && mayOne s.ns k)) && ((List.range s.ns.length).all fun p => kidsOf s.ns p == kidL s.ns p) && !(s.ns.any fun n => side2 s.ns n.kids)) := by
      rw [hn] at hr ⊢
      injection hr with hr
      subst hr
      rfl
    rw [e]
    have h1 : ((List.range s.ns.length).all fun k => k == 0 || (stands s.ns k && mayOne s.ns k)) = true := by
      rw [List.all_eq_true]
      intro k hk
      have hk := List.mem_range.1 hk
      by_cases h0 : k = 0
      · simp [h0]
      · obtain ⟨a, ha, hau, hal⟩ := h.stand k (by omega) hk
        obtain ⟨n, hnk⟩ := get_lt hk
        have h2 : mayOne s.ns k = true := by unfold mayOne; rw [hnk]; exact h.one k (by omega) n hnk
        have h3 : stands s.ns k = true := by
          unfold stands
          rw [show ((k : Int) - 1) = ((k - 1 : Nat) : Int) by omega]
          cases hf : (up s.ns ((k - 1 : Nat) : Int)).find? (fun a : Nat => decide ((a : Int) = par s.ns k)) with
          | none =>
            have := List.find?_eq_none.1 hf a hau
            rw [ha] at this
            simp at this
          | some b =>
            have hb := (find_mem hf).2
            rw [ha] at hb
            have hb : (b : Int) = (a : Int) := by simpa using hb
            have hb : b = a := by omega
            rw [hb]
            simpa using hal
        rw [h2, h3]; simp
    have h2 : ((List.range s.ns.length).all fun p => kidsOf s.ns p == kidL s.ns p) = true := by
      rw [List.all_eq_true]
      intro p hp
      rw [h.kids p (List.mem_range.1 hp)]
      simp
    have h3 : (s.ns.any fun n => side2 s.ns n.kids) = false := by
      rw [List.any_eq_false]
      intro n hn2
      obtain ⟨i, hi⟩ := List.getElem?_of_mem hn2
      have := h.side i
      rw [kidsOf_of hi] at this
      rw [this]; decide
    rw [h1, h2, h3, hm]
    simp [hok.few]
theorem build_may (ts : List Tk) : (∃ e, build ts = ([], e) ∧ e ≠ 0) ∨ (∃ ns, build ts = (ns, 0) ∧ ns ≠ [] ∧ mayP ns = true) := by
  unfold build
  cases hr : run st0 ts with
  | error e => exact .inl ⟨e, rfl, by have := run_err ts hr; omega⟩
  | ok s =>
    have h := inv_run ts inv0 hr
    exact .inr ⟨s.ns, rfl, fun e => by have := h.ok.pos; rw [e] at this; exact absurd this (by decide), inv_may h⟩
end Tre
end Go.Proofs.YteopighhhcikcaaGreatDoor
