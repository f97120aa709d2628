import PyProof.Rows.All
import Wide.All
import OpenK.AllK
import Wide.FinOn
import HandS.ForMost
import HandS.IsInst
import HandS.Zip
import HandS.Walk
import HandS.More
import HandS.SortKw
import HandS.ForExc
import HandS.ExcInit
import HandS.ExcField
import HandS.TryMany
import HandS.ClsMeth
import HandS.FStr
import HandS.FStrTup
import HandS.WordsExc
import HandS.Defaults
import HandS.Sort
import HandS.Deep
import PyProof.ListRange
import PySem.Challenge.RW_swapslip_k05_whole_prices_by_all_ways
set_option Elab.async false
set_option linter.all false
set_option maxRecDepth 100000
set_option maxHeartbeats 2000000


namespace PySem
namespace F
theorem args_sum2 (a b : Value) : argsOk "sum" ⟨[a, b], []⟩ := by unfold argsOk; kernel_rfl
end F
/-- the items of the lists from the i-th on, k of them -/
def catFrom (xs : Nat → Array Value) (i : Nat) : Nat → Array Value
  | 0 => #[]
  | k + 1 => xs i ++ catFrom xs (i + 1) k
section
variable {prog : Program} {w : World} {A : Around} {R : Result → Shared → Prop}
theorem sum_lists_loop (hh : A.in1.handled = none) (I ax S : Addr) (hne : ax ≠ I) (hSI : S ≠ I) (hSa : S ≠ ax) (items : Array Value) (ls : Nat → Addr) (xs : Nat → Array Value)
    (hit : ∀ (i : Nat) (v : Value), items[i]? = some v → v = Value.ref (ls i)) (hlI : ∀ i, i < items.size → ls i ≠ I) (hlS : ∀ i, i < items.size → ls i ≠ S) :
    ∀ (k i : Nat) (s : Shared) (acc : Addr) (ai : Array Value) (m c : Nat), items.size - i = k → i ≤ items.size → (s.heap.IsListIter I ax i ∧ s.heap.IsList ax items) →
      s.heap.get? S = some { cls := .type "list", dict := none, data := .seq #[.ref acc] c, slots := #[] } → s.heap.get? acc = some { cls := .type "list", data := .seq ai m } →
      (∀ j, j < items.size → ∃ n, s.heap.get? (ls j) = some { cls := .type "list", data := .seq (xs j) n }) → acc ≠ I → acc ≠ S →
      ai.size + (catFrom xs i k).size ≤ sizeLine →
      (∀ h' tk r n, (∀ b o, b ≠ I → b ≠ S → s.heap.get? b = some o → h'.get? b = some o) → h'.get? r = some { cls := .type "list", data := .seq (ai ++ catFrom xs i k) n } → (k = 0 → r = acc) → (0 < k → S < r) → R (.ok (.ret (.ref r))) { s with heap := h', toks := tk }) →
      codeAny (model prog w) A (.builtin "sum.loop" ⟨[.ref I, .ref S, rawInt 2, rawInt 0], []⟩) R s := by
  have W := Walks.list (prog := prog) (w := w) hh I ax hne items
  intro k
  induction k with
  | zero =>
    intro i s acc ai m c hk hi hst hS ha hl haI haS hz hR
    have hin : i = items.size := by omega
    subst hin
    refine codeAny_builtin F.entry_sum_loop ?_
    rw [Around.under_plainId F.plain_sum_loop _]
    show wpAny _ A.in1 (seqItems? (.ref S) >>= _) _ _ s
    refine wpAny_bind (wpAny_seqItems hS rfl ?_)
    show wpAny _ A.in1 (tryCatch (pyNext (.ref I)) _ >>= _) _ _ s
    refine wpAny_bind (wpAny_tryCatch (W.done s _ _ hst fun h' tk hk' => ?_))
    refine wpAny_pure (hR h' tk acc m (fun b o hbI hbS e => hk' b o (by simpa using hbI) e) ?_ (fun _ => rfl) (fun h => absurd h (Nat.lt_irrefl _)))
    have := hk' acc _ (by simpa using haI) ha
    simpa [catFrom] using this
  | succ k ih =>
    intro i s acc ai m c hk hi hst hS ha hl haI haS hz hR
    have hlt : i < items.size := by omega
    refine codeAny_builtin F.entry_sum_loop ?_
    rw [Around.under_plainId F.plain_sum_loop _]
    show wpAny _ A.in1 (seqItems? (.ref S) >>= _) _ _ s
    refine wpAny_bind (wpAny_seqItems hS rfl ?_)
    show wpAny _ A.in1 (tryCatch (pyNext (.ref I)) _ >>= _) _ _ s
    refine wpAny_bind (wpAny_tryCatch (W.item i s _ _ hlt hst fun v h' tk hP hst' hk' => ?_))
    have ev := hit i v hP
    subst ev
    have hS' := hk' S _ (by simpa using hSI) hS
    have ha' := hk' acc _ (by simpa using haI) ha
    obtain ⟨n1, hl1⟩ := hl i hlt
    have hl1' := hk' (ls i) _ (by simpa using hlI i hlt) hl1
    have hzz : ai.size + (xs i).size ≤ sizeLine := by
      have : (catFrom xs i (k + 1)).size = (xs i).size + (catFrom xs (i + 1) k).size := by simp [catFrom]
      omega
    show wpAny _ A.in1 ((holding [Value.ref (ls i)] (binaryOp .Add (.ref acc) (.ref (ls i)))).attempt >>= _) _ _ _
    refine wpAny_bind (wpAny_attempt (wpAny_holding (PySem.P.add_list (s := { s with heap := h', toks := tk }) ha' hl1' ?_ hzz)))
    have hSz : S < h'.objs.size := Heap.lt_size hS'
    have hIz : I < h'.objs.size := by obtain ⟨_, e, _⟩ := hst'.1; exact Heap.lt_size e
    have hS2 : (h'.push { cls := .type "list", data := .seq (ai ++ xs i) }).get? S = _ := Heap.get?_push_of_some _ hS'
    show wpAny _ A.in1 (updateSeq S (fun _ => #[.ref h'.objs.size]) >>= _) _ _ _
    refine wpAny_bind (wpAny_updateSeq hS2 rfl ?_)
    have hS₃ := Heap.get?_update_self (Obj.mapSeq fun _ => #[Value.ref h'.objs.size]) hS2 rfl
    refine wpAny_bind (wpAny_letGo ?_)
    refine wpAny_bind (wpAny_updateSeq hS₃ rfl ?_)
    have hS₄ := Heap.get?_update_self (Obj.mapSeq fun _ => #[Value.ref h'.objs.size]) hS₃ rfl
    have keep : ∀ b o, b ≠ S → h'.get? b = some o → (((h'.push { cls := .type "list", data := .seq (ai ++ xs i) }).update S (Obj.mapSeq fun _ => #[Value.ref h'.objs.size])).update S (Obj.mapSeq fun _ => #[Value.ref h'.objs.size])).get? b = some o := fun b o hb e =>
      (Heap.get?_update_other _ _ (Ne.symm hb)).trans ((Heap.get?_update_other _ _ (Ne.symm hb)).trans (Heap.get?_push_of_some _ e))
    have hnew : (((h'.push { cls := .type "list", data := .seq (ai ++ xs i) }).update S (Obj.mapSeq fun _ => #[Value.ref h'.objs.size])).update S (Obj.mapSeq fun _ => #[Value.ref h'.objs.size])).get? h'.objs.size = some { cls := .type "list", data := .seq (ai ++ xs i) } :=
      (Heap.get?_update_other _ _ (Nat.ne_of_lt hSz)).trans ((Heap.get?_update_other _ _ (Nat.ne_of_lt hSz)).trans (Heap.get?_push_size _ rfl))
    refine wpAny_pure ⟨plainId_quiet F.plain_sum_loop _, ih (i + 1) _ h'.objs.size (ai ++ xs i) _ _ (by omega) hlt (W.frame _ _ _ hst' fun b hb o e => keep b o ?_ e) hS₄ hnew ?_ (Nat.ne_of_gt hIz) (Nat.ne_of_gt hSz) ?_ ?_⟩
    · intro q; subst q
      rcases List.mem_cons.mp hb with q | q
      · exact hSI q
      · exact hSa (by simpa using q)
    · intro j hj
      obtain ⟨n2, e2⟩ := hl j hj
      exact ⟨n2, keep _ _ (hlS j hj) (hk' _ _ (by simpa using hlI j hj) e2)⟩
    · have : (catFrom xs i (k + 1)).size = (xs i).size + (catFrom xs (i + 1) k).size := by simp [catFrom]
      simp only [Array.size_append]
      omega
    · intro h2 tk2 r n hk2 hr h0 h1
      refine hR h2 tk2 r n (fun b o hbI hbS e => hk2 b o hbI hbS (keep b o hbS (hk' b o (by simpa using hbI) e))) ?_ (fun q => by omega) (fun _ => ?_)
      · simpa [catFrom, Array.append_assoc] using hr
      · by_cases h00 : k = 0
        · rw [h0 h00]; exact hSz
        · exact h1 (by omega)
end
section
variable {prog : Program} {w : World} {A : Around} {E : Value → Shared → Prop} {s : Shared}
theorem sub_list_str : isSubtype (.type "list") (.type "str") = pure false := by rw [isSubtype_type]; kernel_rfl
theorem sub_list_bytes : isSubtype (.type "list") (.type "bytes") = pure false := by rw [isSubtype_type]; kernel_rfl
theorem sub_list_bytearray : isSubtype (.type "list") (.type "bytearray") = pure false := by rw [isSubtype_type]; kernel_rfl
theorem call_sum_lists {l z : Addr} {items zi : Array Value} {nl nz : Nat} {Q : Value → Shared → Prop} (ls : Nat → Addr) (xs : Nat → Array Value) (hh : A.in1.handled = none)
    (hl : s.heap.get? l = some { cls := .type "list", data := .seq items nl }) (hz : s.heap.get? z = some { cls := .type "list", data := .seq zi nz })
    (hit : ∀ (i : Nat) (v : Value), items[i]? = some v → v = Value.ref (ls i)) (hls : ∀ j, j < items.size → ∃ n, s.heap.get? (ls j) = some { cls := .type "list", data := .seq (xs j) n }) (hpos : 0 < items.size)
    (hsz : zi.size + (catFrom xs 0 items.size).size ≤ sizeLine)
    (h : ∀ h' tk r n, (∀ b o, s.heap.get? b = some o → h'.get? b = some o) → s.heap.objs.size ≤ r → h'.get? r = some { cls := .type "list", data := .seq (zi ++ catFrom xs 0 items.size) n } → Q (.ref r) { s with heap := h', toks := tk }) :
    wpAny (model prog w) A (call (.builtin "sum") [.ref l, .ref z]) Q E s := by
  have hil : s.heap.IsList l items := ⟨_, hl, rfl, _, rfl⟩
  have hiz : s.heap.IsList z zi := ⟨_, hz, rfl, _, rfl⟩
  refine call_function_tree F.kind_sum F.plain_sum F.entry_sum (F.args_sum2 _ _) ?_
  unfold Builtin.«sum»
  simp only [List.length_cons, List.length_nil]
  rw [if_neg (by decide)]
  refine wpAny_bind (wpAny_of_eq (show Builtin.Builtins.bindParams "sum" ["start"] 0 ⟨[.ref z], []⟩ = pure [some (.ref z)] from rfl) ?_)
  refine wpAny_bind (L2.iter_any hil fun s₂ e2 st hne => ?_)
  subst e2
  refine wpAny_bind (wpAny_pure ?_)
  have hiz2 := hiz.push { cls := .type "list_iterator", data := .fields #[.ref l, .int 0 0] }
  simp only [List.forIn_cons, List.forIn_nil]
  refine wpAny_bind (wpAny_bind (wpAny_bind (wpAny_isInstance (T := "list") (b := false) hiz2.typeIs sub_list_str ?_)))
  simp only [Bool.false_eq_true, if_false]
  refine wpAny_pure (wpAny_bind (wpAny_bind (wpAny_isInstance (T := "list") (b := false) hiz2.typeIs sub_list_bytes ?_)))
  simp only [Bool.false_eq_true, if_false]
  refine wpAny_pure (wpAny_bind (wpAny_bind (wpAny_isInstance (T := "list") (b := false) hiz2.typeIs sub_list_bytearray ?_)))
  simp only [Bool.false_eq_true, if_false]
  refine wpAny_pure (wpAny_pure ?_)
  refine wpAny_bind (wpAny_newObj_type ?_)
  have hsz1 : (s.heap.push { cls := .type "list_iterator", data := .fields #[.ref l, .int 0 0] }).objs.size = s.heap.objs.size + 1 := Heap.size_push _ _
  have old : ∀ b o, s.heap.get? b = some o → ((s.heap.push { cls := .type "list_iterator", data := .fields #[.ref l, .int 0 0] }).push { cls := .type "list", data := .seq #[Value.ref z] }).get? b = some o := fun b o e =>
    Heap.get?_push_of_some _ (Heap.get?_push_of_some _ e)
  have lt : ∀ b o, s.heap.get? b = some o → b < s.heap.objs.size := fun b o e => Heap.lt_size e
  have lt2 : ∀ b, b < s.heap.objs.size → b ≠ (s.heap.push { cls := .type "list_iterator", data := .fields #[.ref l, .int 0 0] }).objs.size := fun b hb => Nat.ne_of_lt (by rw [hsz1]; exact Nat.lt_succ_of_lt hb)
  refine wpAny_pure ⟨plainId_quiet F.plain_sum_loop _, sum_lists_loop (A := A) hh s.heap.objs.size l (s.heap.push { cls := .type "list_iterator", data := .fields #[.ref l, .int 0 0] }).objs.size hne (Nat.ne_of_gt (by rw [hsz1]; exact Nat.lt_succ_self _)) (Ne.symm (lt2 _ (lt _ _ hl))) items ls xs hit
    (fun i hi => by obtain ⟨n, e⟩ := hls i hi; exact Nat.ne_of_lt (lt _ _ e)) (fun i hi => by obtain ⟨n, e⟩ := hls i hi; exact lt2 _ (lt _ _ e))
    items.size 0 _ z zi nz 0 (by omega) (Nat.zero_le _) ⟨st.1.at fun o e => Heap.get?_push_of_some _ e, st.2.push _⟩ (Heap.get?_push_size _ rfl) (old _ _ hz) (fun j hj => by obtain ⟨n, e⟩ := hls j hj; exact ⟨n, old _ _ e⟩)
    (Nat.ne_of_lt (lt _ _ hz)) (lt2 _ (lt _ _ hz)) hsz fun h' tk r n hk hr _ h1 => ?_⟩
  refine h h' tk r n (fun b o e => hk b o (Nat.ne_of_lt (lt _ _ e)) (lt2 _ (lt _ _ e)) (old b o e)) ?_ hr
  have := h1 hpos
  rw [hsz1] at this
  exact Nat.le_of_lt (Nat.lt_of_succ_lt this)
end
end PySem

namespace L2
open PySem PySem.Spec PyProof.Rows
section
variable {X : Cx}
/-- xs[i] as it is read in xs[i] op= e -/
def rGetL (K : PySem.W.Frag) : R2 := fun x y H Q => ∃ p xs i v, x = .ref p ∧ y = .int i ∧ SqL K H p xs ∧ 0 ≤ i ∧ xs[i.toNat]? = some v ∧ Q v H
theorem get_listA : PGet X (rGetL X.K) := by
  intro pins s σ H x y v u Q I rx ry h
  obtain ⟨p, xs, i, z, rfl, rfl, hq, h0, he, q⟩ := h
  cases rx
  obtain ⟨t, rfl⟩ := ry
  obtain ⟨its, r, pl, hz⟩ := I.list hq
  obtain ⟨w, ew, rw'⟩ := r.get he
  have hl := r.length
  have hn := line63
  have hlt : i.toNat < xs.length := (List.getElem?_eq_some_iff.mp he).1
  exact wpAny_getItem_list pl.isList h0 (by omega) (by simpa using ew) ⟨z, H, I, rw', q⟩
/-- sum(xss, zs): a list of one list and more, and a list to begin with -/
def rSumL (K : PySem.W.Frag) : List V → Hp → VK → Prop := fun vs H Q => ∃ (a z : Addr) (ls : List Addr) (xss : List (List V)) (zs : List V), vs = [V.ref a, V.ref z] ∧ H a = some (.lst (ls.map V.ref)) ∧ H z = some (.lst zs) ∧
  Paired (fun l xs => H l = some (.lst xs)) ls xss ∧ ls ≠ [] ∧ zs.length + xss.flatten.length ≤ sizeLine ∧ ∀ p, H p = none → Q (.ref p) (upd H p (.lst (zs ++ xss.flatten)))
theorem paired_at {α β : Type} {R : α → β → Prop} : ∀ {xs : List α} {ys : List β}, Paired R xs ys → ∀ (i : Nat) (x : α), xs[i]? = some x → ∃ y, ys[i]? = some y ∧ R x y
  | _, _, .nil, i, x, h => by simp at h
  | _, _, .cons r t, 0, x, h => by simp at h; subst h; exact ⟨_, rfl, r⟩
  | _, _, .cons r t, i + 1, x, h => by
    obtain ⟨y, e, q⟩ := paired_at t i x (by simpa using h)
    exact ⟨y, by simpa using e, q⟩
/-- the items of the list object at a -/
def seqAt (h : Heap) (a : Addr) : Array Value := match h.get? a with
  | some ⟨_, _, .seq xs _, _⟩ => xs
  | _ => #[]
theorem vals_cat {X : Cx} {pins : List (Addr × Obj)} {σ : St} {H : Hp} {s : Shared} (I : Inv X pins σ H s) : ∀ {ls : List Addr} {xss : List (List V)} (f : Nat → Addr) (i : Nat), Paired (fun l xs => H l = some (.lst xs)) ls xss → (∀ j a, ls[j]? = some a → f (i + j) = a) →
    Vals xss.flatten (catFrom (fun j => seqAt s.heap (f j)) i ls.length).toList
  | _, _, f, i, .nil, _ => .nil
  | _, _, f, i, .cons (a := l) (b := xs) (l₁ := ls) (l₂ := xss) r t, h => by
    obtain ⟨z, its, n, rv, hl, e⟩ := I.lstM r
    have e0 : f i = l := h 0 l rfl
    have es : seqAt s.heap (f i) = its.toArray := by
      unfold seqAt
      rw [e0, e]
    have ih := vals_cat I f (i + 1) t fun j a ha => by rw [show i + 1 + j = i + (j + 1) by omega]; exact h (j + 1) a (by simpa using ha)
    show Vals (xs ++ xss.flatten) (seqAt s.heap (f i) ++ catFrom (fun j => seqAt s.heap (f j)) (i + 1) ls.length).toList
    rw [es, Array.toList_append]
    exact rv.append ih
theorem vals_refs : ∀ {ls : List Addr} {us : List Value}, Vals (ls.map V.ref) us → us = ls.map Value.ref
  | [], _, .nil => rfl
  | l :: ls, _, .cons r t => by
    rw [vals_refs t]
    cases r
    rfl
theorem cr_sumL (hc : X.calm = true) : CallR X (.builtin "sum") (rSumL X.K) := by
  intro pins s σ H vs us Q I r h
  obtain ⟨a, z, ls, xss, zs, rfl, ha, hz, hp, hne, hsz, q⟩ := h
  obtain ⟨u1, u2, rfl, r1, r2⟩ := Vals.two r
  cases (show u1 = Value.ref a from r1)
  cases (show u2 = Value.ref z from r2)
  obtain ⟨_, its, n, rv, hl, e⟩ := I.lstM ha
  obtain ⟨_, itz, nz, rz, hlz, ez⟩ := I.lstM hz
  have ei := vals_refs rv
  subst ei
  have hlen : (ls.map Value.ref).toArray.size = ls.length := by simp
  have hcat := vals_cat I (fun j => ls.getD j 0) 0 hp (fun j b hb => by
    show ls.getD (0 + j) 0 = b
    rw [Nat.zero_add, List.getD_eq_getElem?_getD, hb]
    rfl)
  have hcl := hcat.length
  refine call_sum_lists (items := (ls.map Value.ref).toArray) (zi := itz.toArray) (fun j => ls.getD j 0) (fun j => seqAt s.heap (ls.getD j 0)) (I.ok.hd hc) e ez (fun i v hv => ?_) (fun j hj => ?_) ?_ ?_ fun h' tk p n' hk hp' hr => ?_
  · have hv' : (ls.map Value.ref)[i]? = some v := by simpa using hv
    rw [List.getElem?_map] at hv'
    obtain ⟨b, hb, rfl⟩ := Option.map_eq_some_iff.mp hv'
    rw [List.getD_eq_getElem?_getD, hb]
    rfl
  · rw [hlen] at hj
    have hb : ls[j]? = some ls[j] := List.getElem?_eq_getElem hj
    obtain ⟨ys, _, hy⟩ := paired_at hp j _ hb
    obtain ⟨_, itj, nj, _, _, ej⟩ := I.lstM hy
    refine ⟨nj, ?_⟩
    have : ls.getD j 0 = ls[j] := by rw [List.getD_eq_getElem?_getD, hb]; rfl
    rw [this, ej]
    unfold seqAt
    rw [ej]
  · rw [hlen]
    cases ls with
    | nil => exact absurd rfl hne
    | cons => simp
  · rw [hlen]
    simp only [List.size_toArray]
    have : (catFrom (fun j => seqAt s.heap (ls.getD j 0)) 0 ls.length).size = xss.flatten.length := (hcl.trans Array.length_toList).symm
    omega
  · rw [hlen] at hr
    have hv : Vals (zs ++ xss.flatten) (itz ++ (catFrom (fun j => seqAt s.heap (ls.getD j 0)) 0 ls.length).toList) := rz.append hcat
    refine ⟨.ref p, upd H p (.lst (zs ++ xss.flatten)), I.laid hk hp' ⟨by rw [List.length_append]; exact hsz, _, n', hv, ?_⟩, rfl, q p (I.hok.fresh hp')⟩
    rw [hr]
    congr 3
    apply Array.ext'
    simp
end
end L2

namespace Sw
/-! ties as (one, other, price); directed edges likewise: (a, b, c): from a one goes to b for c -/
abbrev T3 := Nat × Nat × Nat
/-- a way from v to the goal g with k steps for c -/
inductive Way (E : List T3) (g : Nat) : Nat → Nat → Nat → Prop
  | nil : Way E g g 0 0
  | cons {a b p k c : Nat} : (a, b, p) ∈ E → Way E g b k c → Way E g a (k + 1) (p + c)
abbrev Dist := List (Option Nat)
def at? (d : Dist) (v : Nat) : Option Nat := (d[v]?).getD none
/-- one relaxing -/
def relax (d : Dist) (e : T3) : Dist :=
  match at? d e.2.1 with
  | none => d
  | some y => match at? d e.1 with
    | none => d.set e.1 (some (y + e.2.2))
    | some x => if y + e.2.2 < x then d.set e.1 (some (y + e.2.2)) else d
def roundOf (L : List T3) (d : Dist) : Dist := L.foldl relax d
def start (n g : Nat) : Dist := (List.replicate n none).set g (some 0)
def rounds (L : List T3) : Nat → Dist → Dist
  | 0, d => d
  | k + 1, d => rounds L k (roundOf L d)
theorem relax_len (d : Dist) (e : T3) : (relax d e).length = d.length := by
  unfold relax
  split
  · rfl
  · split
    · simp
    · split <;> simp
theorem round_len (L : List T3) : ∀ d, (roundOf L d).length = d.length := by
  induction L with
  | nil => intro d; rfl
  | cons e L ih => intro d; show (roundOf L (relax d e)).length = _; rw [ih, relax_len]
theorem at_set (d : Dist) (v u : Nat) (x : Option Nat) (h : v < d.length) : at? (d.set v x) u = if u = v then x else at? d u := by
  unfold at?
  rw [List.getElem?_set]
  by_cases e : v = u
  · subst e; simp [h]
  · simp [e, Ne.symm e]
/-- le on Option with none the top -/
def Le (x y : Option Nat) : Prop := ∀ c, y = some c → ∃ c', x = some c' ∧ c' ≤ c
theorem Le.refl (x : Option Nat) : Le x x := fun c h => ⟨c, h, Nat.le_refl _⟩
theorem Le.trans {x y z : Option Nat} (h : Le x y) (h' : Le y z) : Le x z := fun c e => by
  obtain ⟨c1, e1, l1⟩ := h' c e
  obtain ⟨c2, e2, l2⟩ := h c1 e1
  exact ⟨c2, e2, Nat.le_trans l2 l1⟩
theorem relax_le (d : Dist) (e : T3) (hl : e.1 < d.length) (v : Nat) : Le (at? (relax d e) v) (at? d v) := by
  unfold relax
  split
  · exact Le.refl _
  · rename_i y hy
    split
    · rename_i hx
      rw [at_set _ _ _ _ hl]
      split
      · rename_i ev; subst ev; intro c hc; rw [hx] at hc; cases hc
      · exact Le.refl _
    · rename_i x hx
      split
      · rename_i lt
        rw [at_set _ _ _ _ hl]
        split
        · rename_i ev; subst ev; intro c hc; rw [hx] at hc; cases hc; exact ⟨_, rfl, Nat.le_of_lt lt⟩
        · exact Le.refl _
      · exact Le.refl _
theorem relax_does (d : Dist) (e : T3) (hl : e.1 < d.length) {y : Nat} (hy : at? d e.2.1 = some y) : Le (at? (relax d e) e.1) (some (y + e.2.2)) := by
  unfold relax
  rw [hy]
  simp only
  split
  · rw [at_set _ _ _ _ hl, if_pos rfl]; exact Le.refl _
  · rename_i x hx
    split
    · rw [at_set _ _ _ _ hl, if_pos rfl]; exact Le.refl _
    · rename_i nl
      intro c hc; cases hc; exact ⟨x, hx, by omega⟩
theorem round_le (L : List T3) : ∀ (d : Dist), (∀ e ∈ L, e.1 < d.length) → ∀ v, Le (at? (roundOf L d) v) (at? d v) := by
  induction L with
  | nil => intro d _ v; exact Le.refl _
  | cons e L ih =>
    intro d h v
    have h1 := relax_le d e (h e List.mem_cons_self) v
    have h2 := ih (relax d e) (fun e' m => by rw [relax_len]; exact h e' (List.mem_cons_of_mem _ m)) v
    exact Le.trans h2 h1
theorem round_does (L : List T3) : ∀ (d : Dist), (∀ e ∈ L, e.1 < d.length) → ∀ e ∈ L, ∀ y, at? d e.2.1 = some y → Le (at? (roundOf L d) e.1) (some (y + e.2.2)) := by
  induction L with
  | nil => intro d _ e m; cases m
  | cons e0 L ih =>
    intro d h e m y hy
    have hr : ∀ e ∈ L, e.1 < (relax d e0).length := fun e' m => by rw [relax_len]; exact h e' (List.mem_cons_of_mem _ m)
    have h1 := relax_le d e0 (h e0 List.mem_cons_self)
    rcases List.mem_cons.mp m with q | q
    · subst q
      have := relax_does d e (h e List.mem_cons_self) hy
      exact Le.trans (round_le L _ hr e.1) this
    · obtain ⟨y', e1, l1⟩ := h1 e.2.1 y hy
      obtain h2 := ih (relax d e0) hr e q y' e1
      intro c hc
      cases hc
      obtain ⟨c', e2, l2⟩ := h2 _ rfl
      exact ⟨c', e2, by omega⟩
/-- soundness -/
def Sound (E : List T3) (g : Nat) (d : Dist) : Prop := ∀ v c, at? d v = some c → ∃ k, Way E g v k c
theorem relax_sound {E : List T3} {g : Nat} {d : Dist} {e : T3} (he : e ∈ E) (hl : e.1 < d.length) (s : Sound E g d) : Sound E g (relax d e) := by
  intro v c hv
  unfold relax at hv
  split at hv
  · exact s v c hv
  · rename_i y hy
    obtain ⟨k, wk⟩ := s _ _ hy
    have ws : ∃ k, Way E g e.1 k (y + e.2.2) := ⟨k + 1, by rw [Nat.add_comm y]; exact Way.cons he wk⟩
    split at hv
    · rw [at_set _ _ _ _ hl] at hv
      split at hv
      · rename_i ev; subst ev; cases hv; exact ws
      · exact s v c hv
    · split at hv
      · rw [at_set _ _ _ _ hl] at hv
        split at hv
        · rename_i ev; subst ev; cases hv; exact ws
        · exact s v c hv
      · exact s v c hv
theorem round_sound {E : List T3} {g : Nat} (L : List T3) : ∀ (d : Dist), (∀ e ∈ L, e ∈ E) → (∀ e ∈ L, e.1 < d.length) → Sound E g d → Sound E g (roundOf L d) := by
  induction L with
  | nil => intro d _ _ s; exact s
  | cons e L ih =>
    intro d h1 h2 s
    exact ih (relax d e) (fun e' m => h1 e' (List.mem_cons_of_mem _ m)) (fun e' m => by rw [relax_len]; exact h2 e' (List.mem_cons_of_mem _ m)) (relax_sound (h1 e List.mem_cons_self) (h2 e List.mem_cons_self) s)
/-- below every way of at most k steps -/
def Below (E : List T3) (g k : Nat) (d : Dist) : Prop := ∀ v j c, j ≤ k → Way E g v j c → Le (at? d v) (some c)
theorem round_below {E : List T3} {g k : Nat} (L : List T3) (d : Dist) (h1 : ∀ e ∈ E, e ∈ L) (h2 : ∀ e ∈ L, e.1 < d.length) (b : Below E g k d) : Below E g (k + 1) (roundOf L d) := by
  intro v j c hj w
  cases w with
  | nil => exact Le.trans (round_le L d h2 _) (b _ 0 0 (Nat.zero_le _) Way.nil)
  | @cons _ u p j' c' he w' =>
    obtain ⟨y, e1, l1⟩ := b u j' c' (by omega) w' _ rfl
    obtain ⟨z, e2, l2⟩ := round_does L d h2 _ (h1 _ he) y e1 _ rfl
    intro c2 hc2
    cases hc2
    refine ⟨z, e2, ?_⟩
    simp only at l2
    omega
theorem rounds_len (L : List T3) : ∀ k d, (rounds L k d).length = d.length := by
  intro k
  induction k with
  | zero => intro d; rfl
  | succ k ih => intro d; show (rounds L k (roundOf L d)).length = _; rw [ih, round_len]
theorem rounds_ok {E : List T3} {g : Nat} (L : List T3) (h0 : ∀ e, e ∈ E ↔ e ∈ L) : ∀ (k j : Nat) (d : Dist), (∀ e ∈ L, e.1 < d.length) → Sound E g d → Below E g j d → Sound E g (rounds L k d) ∧ Below E g (j + k) (rounds L k d) := by
  intro k
  induction k with
  | zero => intro j d _ s b; exact ⟨s, b⟩
  | succ k ih =>
    intro j d h s b
    have := ih (j + 1) (roundOf L d) (fun e m => by rw [round_len]; exact h e m) (round_sound L d (fun e m => (h0 e).mpr m) h s) (round_below L d (fun e m => (h0 e).mp m) h b)
    rw [show j + (k + 1) = j + 1 + k by omega]
    exact this
theorem rounds_succ (L : List T3) : ∀ k d, rounds L (k + 1) d = roundOf L (rounds L k d) := by
  intro k
  induction k with
  | zero => intro d; rfl
  | succ k ih => intro d; show rounds L (k + 1) (roundOf L d) = _; rw [ih]; rfl
/-! a way without a house twice -/
/-- no more than n different numbers below n -/
theorem nodup_le : ∀ (n : Nat) (l : List Nat), l.Nodup → (∀ x ∈ l, x < n) → l.length ≤ n := by
  intro n
  induction n with
  | zero =>
    intro l _ h
    cases l with
    | nil => simp
    | cons a l => exact absurd (h a List.mem_cons_self) (by omega)
  | succ n ih =>
    intro l nd h
    have h1 := ih (l.erase n) (nd.erase _) (fun x m => by
      have := h x (List.mem_of_mem_erase m)
      have hne : x ≠ n := fun q => by
        subst q
        exact (List.Nodup.not_mem_erase nd) m
      omega)
    have h2 : l.length ≤ (l.erase n).length + 1 := by
      rw [List.length_erase]
      split <;> omega
    omega
/-- the houses of a way (the goal left out) -/
inductive WayL (E : List T3) (g : Nat) : Nat → List Nat → Nat → Prop
  | nil : WayL E g g [] 0
  | cons {a b p c : Nat} {l : List Nat} : (a, b, p) ∈ E → WayL E g b l c → WayL E g a (a :: l) (p + c)
theorem Way.toL {E : List T3} {g v k c : Nat} (w : Way E g v k c) : ∃ l, WayL E g v l c ∧ l.length = k := by
  induction w with
  | nil => exact ⟨[], .nil, rfl⟩
  | cons he _ ih => obtain ⟨l, w, e⟩ := ih; exact ⟨_, .cons he w, by simp [e]⟩
theorem WayL.toW {E : List T3} {g v c : Nat} {l : List Nat} (w : WayL E g v l c) : Way E g v l.length c := by
  induction w with
  | nil => exact .nil
  | cons he _ ih => exact .cons he ih
/-- from a house on the way on -/
theorem WayL.from {E : List T3} {g v c : Nat} {l : List Nat} (w : WayL E g v l c) (nd : l.Nodup) : ∀ u ∈ l, ∃ l' c', WayL E g u l' c' ∧ c' ≤ c ∧ l'.Nodup ∧ ∀ x ∈ l', x ∈ l := by
  induction w with
  | nil => intro u m; cases m
  | @cons a b p c l he w ih =>
    intro u m
    rcases List.mem_cons.mp m with q | q
    · subst q; exact ⟨_, _, .cons he w, Nat.le_refl _, nd, fun x m => m⟩
    · obtain ⟨l', c', w', le, nd', sub⟩ := ih (List.nodup_cons.mp nd).2 u q
      exact ⟨l', c', w', by omega, nd', fun x m => List.mem_cons_of_mem _ (sub x m)⟩
theorem WayL.simple {E : List T3} {g v c : Nat} {l : List Nat} (w : WayL E g v l c) : ∃ l' c', WayL E g v l' c' ∧ c' ≤ c ∧ l'.Nodup ∧ g ∉ l' := by
  induction w with
  | nil => exact ⟨[], 0, .nil, Nat.le_refl _, List.nodup_nil, by simp⟩
  | @cons a b p c l he w ih =>
    obtain ⟨l', c', w', le, nd, ng⟩ := ih
    by_cases hg : a = g
    · subst hg; exact ⟨[], 0, .nil, Nat.zero_le _, List.nodup_nil, by simp⟩
    · by_cases ha : a ∈ l'
      · obtain ⟨l2, c2, w2, le2, nd2, sub⟩ := w'.from nd a ha
        exact ⟨l2, c2, w2, by omega, nd2, fun m => ng (sub _ m)⟩
      · exact ⟨a :: l', p + c', .cons he w', by omega, List.nodup_cons.mpr ⟨ha, nd⟩, fun m => by
          rcases List.mem_cons.mp m with q | q
          · exact hg q.symm
          · exact ng q⟩
theorem WayL.lt {E : List T3} {g v c n : Nat} {l : List Nat} (w : WayL E g v l c) (hE : ∀ e ∈ E, e.1 < n) : ∀ x ∈ l, x < n := by
  induction w with
  | nil => intro x m; cases m
  | cons he _ ih =>
    intro x m
    rcases List.mem_cons.mp m with q | q
    · subst q; exact hE _ he
    · exact ih x q
theorem way_short {E : List T3} {g v k c n : Nat} (hE : ∀ e ∈ E, e.1 < n) (w : Way E g v k c) : ∃ k' c', k' ≤ n ∧ c' ≤ c ∧ Way E g v k' c' := by
  obtain ⟨l, wl, _⟩ := w.toL
  obtain ⟨l', c', w', le, nd, _⟩ := wl.simple
  exact ⟨l'.length, c', nodup_le n l' nd (w'.lt hE), le, w'.toW⟩
/-- what the list of least prices is -/
structure IsFar (E : List T3) (n g : Nat) (d : Dist) : Prop where
  len : d.length = n
  way : Sound E g d
  least : ∀ v k c, Way E g v k c → Le (at? d v) (some c)
theorem start_at (n g v : Nat) (hg : g < n) : at? (start n g) v = if v = g then some 0 else none := by
  unfold start
  rw [at_set _ _ _ _ (by simpa using hg)]
  split
  · rfl
  · unfold at?
    rw [List.getElem?_replicate]
    split <;> rfl
theorem far_is {E : List T3} {n g : Nat} (L : List T3) (h0 : ∀ e, e ∈ E ↔ e ∈ L) (hE : ∀ e ∈ E, e.1 < n) (hg : g < n) : IsFar E n g (rounds L n (start n g)) := by
  have hs : (start n g).length = n := by simp [start]
  have h := rounds_ok (E := E) (g := g) L h0 n 0 (start n g) (fun e m => by rw [hs]; exact hE e ((h0 e).mpr m))
    (fun v c h => by
      rw [start_at _ _ _ hg] at h
      split at h
      · rename_i q; subst q; cases h; exact ⟨0, .nil⟩
      · cases h)
    (fun v j c hj w => by
      have : j = 0 := by omega
      subst this
      cases w
      rw [start_at _ _ _ hg, if_pos rfl]
      exact Le.refl _)
  refine ⟨by rw [rounds_len, hs], h.1, fun v k c w => ?_⟩
  obtain ⟨k', c', hk, hc, w'⟩ := way_short hE w
  obtain ⟨z, e, l⟩ := h.2 v k' c' (by omega) w' _ rfl
  intro c2 e2
  cases e2
  exact ⟨z, e, by omega⟩
theorem far_one {E : List T3} {n g : Nat} {d d' : Dist} (h : IsFar E n g d) (h' : IsFar E n g d') : d = d' := by
  have key : ∀ v, at? d v = at? d' v := fun v => by
    cases e : at? d v with
    | none =>
      cases e' : at? d' v with
      | none => rfl
      | some c' =>
        obtain ⟨k, w⟩ := h'.way _ _ e'
        obtain ⟨z, ez, _⟩ := h.least _ _ _ w _ rfl
        rw [e] at ez; cases ez
    | some c =>
      obtain ⟨k, w⟩ := h.way _ _ e
      obtain ⟨z, ez, lz⟩ := h'.least _ _ _ w _ rfl
      obtain ⟨k2, w2⟩ := h'.way _ _ ez
      obtain ⟨z2, ez2, lz2⟩ := h.least _ _ _ w2 _ rfl
      rw [e] at ez2; cases ez2
      rw [ez]
      congr 1
      omega
  refine List.ext_getElem? fun i => ?_
  by_cases hi : i < n
  · have a1 : i < d.length := by rw [h.len]; exact hi
    have a2 : i < d'.length := by rw [h'.len]; exact hi
    have := key i
    unfold at? at this
    rw [List.getElem?_eq_getElem a1, List.getElem?_eq_getElem a2] at this ⊢
    simpa using this
  · rw [List.getElem?_eq_none (by rw [h.len]; omega), List.getElem?_eq_none (by rw [h'.len]; omega)]
theorem far_cong {E E' : List T3} {n g : Nat} {d : Dist} (he : ∀ e, e ∈ E ↔ e ∈ E') (h : IsFar E n g d) : IsFar E' n g d := by
  have tr : ∀ {A B : List T3}, (∀ e, e ∈ A → e ∈ B) → ∀ {v k c}, Way A g v k c → Way B g v k c := by
    intro A B hs v k c w
    induction w with
    | nil => exact .nil
    | cons m _ ih => exact .cons (hs _ m) ih
  exact ⟨h.len, fun v c e => by obtain ⟨k, w⟩ := h.way v c e; exact ⟨k, tr (fun e m => (he e).mp m) w⟩, fun v k c w => h.least v k c (tr (fun e m => (he e).mpr m) w)⟩
end Sw
namespace Sw
/-- u is a next house of h: just so much nearer -/
def Cand (E : List T3) (d : Dist) (h u : Nat) : Prop := ∃ c y, (h, u, c) ∈ E ∧ at? d u = some y ∧ at? d h = some (y + c)
def IsNext (E : List T3) (d : Dist) (g h : Nat) : Option Nat → Prop
  | none => h = g ∨ at? d h = none
  | some u => h ≠ g ∧ at? d h ≠ none ∧ Cand E d h u ∧ ∀ v, Cand E d h v → u ≤ v
theorem next_one {E : List T3} {d : Dist} {g h : Nat} : ∀ {x y : Option Nat}, IsNext E d g h x → IsNext E d g h y → x = y
  | none, none, _, _ => rfl
  | none, some u, h1, h2 => by
    rcases h1 with q | q
    · exact absurd q h2.1
    · exact absurd q h2.2.1
  | some u, none, h1, h2 => by
    rcases h2 with q | q
    · exact absurd q h1.1
    · exact absurd q h1.2.1
  | some u, some v, h1, h2 => by
    have a := h1.2.2.2 v h2.2.2.1
    have b := h2.2.2.2 u h1.2.2.1
    rw [Nat.le_antisymm a b]
theorem cand_cong {E E' : List T3} (he : ∀ e, e ∈ E ↔ e ∈ E') {d : Dist} {h u : Nat} : Cand E d h u ↔ Cand E' d h u :=
  ⟨fun ⟨c, y, a, b⟩ => ⟨c, y, (he _).mp a, b⟩, fun ⟨c, y, a, b⟩ => ⟨c, y, (he _).mpr a, b⟩⟩
theorem next_cong {E E' : List T3} (he : ∀ e, e ∈ E ↔ e ∈ E') {d : Dist} {g h : Nat} : ∀ {x : Option Nat}, IsNext E d g h x → IsNext E' d g h x
  | none, a => a
  | some u, a => ⟨a.1, a.2.1, (cand_cong he).mp a.2.2.1, fun v hv => a.2.2.2 v ((cand_cong he).mpr hv)⟩
theorem far_goal {E : List T3} {n g : Nat} {d : Dist} (f : IsFar E n g d) : at? d g = some 0 := by
  obtain ⟨c, e, l⟩ := f.least g 0 0 .nil 0 rfl
  rw [e]
  congr 1
  omega
theorem cand_ex {E : List T3} {n g h c : Nat} {d : Dist} (f : IsFar E n g d) (hg : h ≠ g) (hc : at? d h = some c) : ∃ u, Cand E d h u := by
  obtain ⟨k, w⟩ := f.way h c hc
  cases w with
  | nil => exact absurd rfl hg
  | @cons _ u p k' c' he w' =>
    obtain ⟨y, ey, ly⟩ := f.least u k' c' w' _ rfl
    obtain ⟨k2, w2⟩ := f.way u y ey
    obtain ⟨z, ez, lz⟩ := f.least h (k2 + 1) (p + y) (.cons he w2) _ rfl
    rw [hc] at ez
    cases ez
    refine ⟨u, p, y, he, ey, ?_⟩
    rw [hc]
    congr 1
    omega
theorem near_some {E : List T3} {n g h u c : Nat} {d : Dist} (f : IsFar E n g d) (hs : ∀ a b c, (a, b, c) ∈ E → (b, a, c) ∈ E) (he : (h, u, c) ∈ E) (hh : at? d h ≠ none) : ∃ y, at? d u = some y := by
  cases e : at? d h with
  | none => exact absurd e hh
  | some z =>
    obtain ⟨k, w⟩ := f.way h z e
    obtain ⟨y, ey, _⟩ := f.least u (k + 1) (c + z) (.cons (hs _ _ _ he) w) _ rfl
    exact ⟨y, ey⟩
/-- whether a neighbour (house, price) is just so much nearer -/
def test (d : Dist) (h : Nat) (q : Nat × Nat) : Bool := match at? d q.1 with
  | some y => decide (at? d h = some (y + q.2))
  | none => false
def candL (d : Dist) (h : Nat) (L : List (Nat × Nat)) : List Nat := (L.filter (test d h)).map (·.1)
theorem candL_mem {E : List T3} {d : Dist} {h : Nat} {L : List (Nat × Nat)} (hL : ∀ u c, (u, c) ∈ L ↔ (h, u, c) ∈ E) (u : Nat) : u ∈ candL d h L ↔ Cand E d h u := by
  unfold candL
  rw [List.mem_map]
  constructor
  · rintro ⟨q, hq, rfl⟩
    obtain ⟨m, t⟩ := List.mem_filter.mp hq
    unfold test at t
    cases e : at? d q.1 with
    | none => rw [e] at t; cases t
    | some y =>
      rw [e] at t
      exact ⟨q.2, y, (hL _ _).mp m, e, of_decide_eq_true t⟩
  · rintro ⟨c, y, m, e, t⟩
    refine ⟨(u, c), List.mem_filter.mpr ⟨(hL _ _).mpr m, ?_⟩, rfl⟩
    unfold test
    rw [e]
    exact decide_eq_true t
def nbr (ts : List T3) (h : Nat) : List (Nat × Nat) := ts.flatMap fun e => (if e.1 = h then [(e.2.1, e.2.2)] else []) ++ (if e.2.1 = h then [(e.1, e.2.2)] else [])
theorem nbr_mem (ts : List T3) (h u c : Nat) : (u, c) ∈ nbr ts h ↔ ((h, u, c) ∈ ts ∨ (u, h, c) ∈ ts) := by
  unfold nbr
  rw [List.mem_flatMap]
  constructor
  · rintro ⟨⟨a, b, p⟩, m, q⟩
    rcases List.mem_append.mp q with q | q
    · split at q
      · rename_i e; simp at q e; obtain ⟨rfl, rfl⟩ := q; subst e; exact .inl m
      · cases q
    · split at q
      · rename_i e; simp at q e; obtain ⟨rfl, rfl⟩ := q; subst e; exact .inr m
      · cases q
  · rintro (m | m)
    · exact ⟨_, m, by simp⟩
    · exact ⟨_, m, by simp⟩
theorem nbr_snoc (ts : List T3) (e : T3) (h : Nat) : nbr (ts ++ [e]) h = nbr ts h ++ ((if e.1 = h then [(e.2.1, e.2.2)] else []) ++ (if e.2.1 = h then [(e.1, e.2.2)] else [])) := by
  unfold nbr
  rw [List.flatMap_append]
  simp
theorem nbr_len (ts : List T3) (h : Nat) : (nbr ts h).length ≤ 2 * ts.length := by
  induction ts with
  | nil => simp [nbr]
  | cons e ts ih =>
    have : nbr (e :: ts) h = ((if e.1 = h then [(e.2.1, e.2.2)] else []) ++ (if e.2.1 = h then [(e.1, e.2.2)] else [])) ++ nbr ts h := rfl
    rw [this, List.length_append, List.length_append]
    have h1 : (if e.1 = h then [(e.2.1, e.2.2)] else []).length ≤ 1 := by split <;> simp
    have h2 : (if e.2.1 = h then [(e.1, e.2.2)] else []).length ≤ 1 := by split <;> simp
    simp only [List.length_cons]
    omega
theorem candL_snoc (d : Dist) (h : Nat) (L : List (Nat × Nat)) (q : Nat × Nat) : candL d h (L ++ [q]) = candL d h L ++ (if test d h q = true then [q.1] else []) := by
  unfold candL
  rw [List.filter_append, List.map_append]
  congr 1
  simp only [List.filter_cons, List.filter_nil]
  split <;> rfl
theorem candL_len (d : Dist) (h : Nat) (L : List (Nat × Nat)) : (candL d h L).length ≤ L.length := by
  unfold candL
  rw [List.length_map]
  exact List.length_filter_le _ _
end Sw
namespace Sw
def fl1 (ts : List T3) (h : Nat) : List (Nat × Nat) := ts.flatMap fun e => if e.1 = h then [(e.2.1, e.2.2)] else []
def fl2 (ts : List T3) (h : Nat) : List (Nat × Nat) := ts.flatMap fun e => if e.2.1 = h then [(e.1, e.2.2)] else []
theorem fl1_snoc (ts : List T3) (e : T3) (h : Nat) : fl1 (ts ++ [e]) h = fl1 ts h ++ (if e.1 = h then [(e.2.1, e.2.2)] else []) := by
  unfold fl1; rw [List.flatMap_append]; simp
theorem fl2_snoc (ts : List T3) (e : T3) (h : Nat) : fl2 (ts ++ [e]) h = fl2 ts h ++ (if e.2.1 = h then [(e.1, e.2.2)] else []) := by
  unfold fl2; rw [List.flatMap_append]; simp
theorem fl_mem (ts : List T3) (h u c : Nat) : (u, c) ∈ fl1 ts h ++ fl2 ts h ↔ ((h, u, c) ∈ ts ∨ (u, h, c) ∈ ts) := by
  rw [List.mem_append]
  unfold fl1 fl2
  rw [List.mem_flatMap, List.mem_flatMap]
  constructor
  · rintro (⟨⟨a, b, p⟩, m, q⟩ | ⟨⟨a, b, p⟩, m, q⟩)
    · split at q
      · rename_i e; simp at q e; obtain ⟨rfl, rfl⟩ := q; subst e; exact .inl m
      · cases q
    · split at q
      · rename_i e; simp at q e; obtain ⟨rfl, rfl⟩ := q; subst e; exact .inr m
      · cases q
  · rintro (m | m)
    · exact .inl ⟨_, m, by simp⟩
    · exact .inr ⟨_, m, by simp⟩
theorem fl1_len (ts : List T3) (h : Nat) : (fl1 ts h).length ≤ ts.length := by
  induction ts with
  | nil => simp [fl1]
  | cons e ts ih =>
    have : fl1 (e :: ts) h = (if e.1 = h then [(e.2.1, e.2.2)] else []) ++ fl1 ts h := rfl
    rw [this, List.length_append]
    have h1 : (if e.1 = h then [(e.2.1, e.2.2)] else []).length ≤ 1 := by split <;> simp
    simp only [List.length_cons]
    omega
theorem fl2_len (ts : List T3) (h : Nat) : (fl2 ts h).length ≤ ts.length := by
  induction ts with
  | nil => simp [fl2]
  | cons e ts ih =>
    have : fl2 (e :: ts) h = (if e.2.1 = h then [(e.1, e.2.2)] else []) ++ fl2 ts h := rfl
    rw [this, List.length_append]
    have h1 : (if e.2.1 = h then [(e.1, e.2.2)] else []).length ≤ 1 := by split <;> simp
    simp only [List.length_cons]
    omega
end Sw
namespace Sw
/-- the told way, house by house -/
inductive WayTo (E : List T3) (d : Dist) (g : Nat) : Nat → List Nat → Prop
  | here : WayTo E d g g [g]
  | step {h u : Nat} {l : List Nat} : IsNext E d g h (some u) → WayTo E d g u l → WayTo E d g h (h :: l)
theorem wayto_one {E : List T3} {d : Dist} {g h : Nat} {l l' : List Nat} (a : WayTo E d g h l) (b : WayTo E d g h l') : l = l' := by
  induction a generalizing l' with
  | here =>
    cases b with
    | here => rfl
    | step i _ => exact absurd rfl i.1
  | step i _ ih =>
    cases b with
    | here => exact absurd rfl i.1
    | step j r =>
      have e := next_one i j
      cases e
      rw [ih r]
theorem way_cost {E : List T3} {g v k c : Nat} (h : ∀ e ∈ E, e.2.2 ≤ 9) (w : Way E g v k c) : c ≤ 9 * k := by
  induction w with
  | nil => exact Nat.le_refl _
  | cons he _ ih =>
    have := h _ he
    simp only at this
    omega
theorem far_small {E : List T3} {n g v c : Nat} {d : Dist} (f : IsFar E n g d) (hE : ∀ e ∈ E, e.1 < n) (h9 : ∀ e ∈ E, e.2.2 ≤ 9) (e : at? d v = some c) : c ≤ 9 * n := by
  obtain ⟨k, w⟩ := f.way v c e
  obtain ⟨k', c', hk, hc, w'⟩ := way_short hE w
  obtain ⟨z, ez, lz⟩ := f.least v k' c' w' _ rfl
  rw [e] at ez
  cases ez
  have := way_cost h9 w'
  have : 9 * k' ≤ 9 * n := Nat.mul_le_mul_left 9 hk
  omega
/-- all houses that a list of prices reaches, rising -/
def lotOf (n : Nat) (d : Dist) : List Nat := (List.range n).filter fun h => (at? d h).isSome
end Sw

namespace K
open PySem PySem.Spec PyProof.Rows L2
/-- all but p stands as it stood -/
def But (p : Addr) (H H' : Hp) : Prop := ∀ b o, H b = some o → b ≠ p → H' b = some o
theorem But.refl (p : Addr) (H : Hp) : But p H H := fun _ _ e _ => e
theorem But.trans {p : Addr} {H H1 H2 : Hp} (a : But p H H1) (b : But p H1 H2) : But p H H2 := fun c o e hc => b c o (a c o e hc) hc
theorem But.of_same {p : Addr} {H H' : Hp} (s : Same H H') : But p H H' := fun b o e _ => s b o e
theorem But.put {p : Addr} {H : Hp} {o : HO} : But p H (upd H p o) := fun b u e hb => by rw [upd_ne hb]; exact e
theorem same_upd {H : Hp} {p : Addr} {o : HO} (h : H p = none) : Same H (upd H p o) := fun b x e => by
  rw [upd_ne (ne_of_none e h)]
  exact e
/-- the box of the draws at p, its list of cells at q -/
def BoxAt (H : Hp) (p q : Addr) : Prop := ∃ (ns : List Int) (i t s : Int), H p = some (.lst [.ref q, .int i, .int t, .int s]) ∧ H q = some (.lst (ns.map V.int)) ∧ 0 ≤ i ∧ i ≤ ns.length ∧ 0 ≤ s ∧ s < 2147483549 ∧ ns.length ≤ 63
theorem BoxAt.ne {H : Hp} {p q : Addr} (h : BoxAt H p q) : p ≠ q := by
  obtain ⟨ns, i, t, s, h1, h2, _⟩ := h
  refine ne_of h1 h2 fun e => ?_
  cases ns with
  | nil => cases e
  | cons n ns => injection e with e; injection e with e1 e2; cases e1
theorem BoxAt.at {H H' : Hp} {p q : Addr} (h : BoxAt H p q) (h1 : ∀ o, H p = some o → H' p = some o) (h2 : ∀ o, H q = some o → H' q = some o) : BoxAt H' p q := by
  obtain ⟨ns, i, t, s, e1, e2, r⟩ := h
  exact ⟨ns, i, t, s, h1 _ e1, h2 _ e2, r⟩
theorem BoxAt.same {H H' : Hp} {p q : Addr} (h : BoxAt H p q) (s : Same H H') : BoxAt H' p q := h.at (fun o e => s _ o e) (fun o e => s _ o e)
theorem BoxAt.p_some {H : Hp} {p q : Addr} (h : BoxAt H p q) : ∃ o, H p = some o := by
  obtain ⟨ns, i, t, s, e1, e2, r⟩ := h
  exact ⟨_, e1⟩
theorem BoxAt.q_some {H : Hp} {p q : Addr} (h : BoxAt H p q) : ∃ o, H q = some o := by
  obtain ⟨ns, i, t, s, e1, e2, r⟩ := h
  exact ⟨_, e2⟩
/-- another object than the box's own two is written -/
theorem BoxAt.put {H : Hp} {p q l : Addr} {o : HO} (h : BoxAt H p q) (hp : l ≠ p) (hq : l ≠ q) : BoxAt (upd H l o) p q :=
  h.at (fun o e => by rw [upd_ne (Ne.symm hp)]; exact e) (fun o e => by rw [upd_ne (Ne.symm hq)]; exact e)
theorem BoxAt.putN {H : Hp} {p q l : Addr} {o : HO} (h : BoxAt H p q) (hl : H l = none) : BoxAt (upd H l o) p q := h.same (same_upd hl)
theorem fmod_le {a n : Int} (hn : 0 < n) : 0 ≤ a.fmod n ∧ a.fmod n < n := by
  rw [Int.fmod_eq_emod_of_nonneg _ (Int.le_of_lt hn)]
  exact ⟨Int.emod_nonneg _ (by omega), Int.emod_lt_of_pos _ hn⟩
/-- _law_box(script) -/
def spBox (K : PySem.W.Frag) : Sp := fun vs H Q _ => ∃ (a : Addr) (ns : List Int), vs = [.ref a] ∧ SqL K H a (ns.map V.int) ∧ ns.length ≤ 63 ∧ ∀ (p q : Addr) (H' : Hp), H p = none → H q = none → BoxAt H' p q → Same H H' → Q (.ref p) H'
/-- _law_take(box, sides): a number below sides; the box is a box again -/
def spTake : Sp := fun vs H Q _ => ∃ (p q : Addr) (n : Int), vs = [.ref p, .int n] ∧ BoxAt H p q ∧ 0 < n ∧ n < 1073741824 ∧ ∀ (r : Int) (H' : Hp), 0 ≤ r → r < n → BoxAt H' p q → But p H H' → Q (.int r) H'
theorem atI0 {α : Type} {xs : List α} {i : Int} {v : α} (h0 : 0 ≤ i) (h : xs[i.toNat]? = some v) : atI xs i = some v := by
  have := atI_nat (j := i.toNat) h
  rwa [Int.toNat_of_nonneg h0] at this
end K
namespace K
open PySem PySem.Spec PyProof.Rows L2
/-- None, bools, ints, texts -/
def flat : V → Bool
  | .non | .bl _ | .int _ | .str _ => true
  | _ => false
/-- the same data, of less than n levels -/
def Eqv : Nat → Hp → V → V → Prop
  | 0, _, _, _ => False
  | n + 1, H, x, y => (x = y ∧ flat x = true) ∨ ∃ (a b : Addr) (xs ys : List V), x = .ref a ∧ y = .ref b ∧ ((H a = some (.lst xs) ∧ H b = some (.lst ys)) ∨ (H a = some (.tup xs) ∧ H b = some (.tup ys))) ∧ xs.length = ys.length ∧ xs.length ≤ 1000 ∧
      ∀ (i : Nat) (u v : V), xs[i]? = some u → ys[i]? = some v → Eqv n H u v
theorem Eqv.same {H H' : Hp} (s : Same H H') : ∀ {n : Nat} {x y : V}, Eqv n H x y → Eqv n H' x y
  | n + 1, x, y, h => by
    rcases h with h | ⟨a, b, xs, ys, e1, e2, h, hl, hz, hi⟩
    · exact .inl h
    · refine .inr ⟨a, b, xs, ys, e1, e2, ?_, hl, hz, fun i u v hu hv => (hi i u v hu hv).same s⟩
      rcases h with ⟨h1, h2⟩ | ⟨h1, h2⟩
      · exact .inl ⟨s _ _ h1, s _ _ h2⟩
      · exact .inr ⟨s _ _ h1, s _ _ h2⟩
def spSame (n : Nat) : Sp := fun vs H Q _ => ∃ (x y : V), vs = [x, y] ∧ Eqv n H x y ∧ ∀ H', Same H H' → Q (.bl true) H'
theorem kit2 {K : PySem.W.Frag} {t T U : String} {b c : Bool} (h : kitB t T = some b) (h2 : kitB t U = some c) : PySem.W.kitAny K (.type t) [.type T, .type U] = some (b || c) := by
  refine kitAny_cons (kit_ty h) (fun e => ?_) (fun e => by rw [e]; rfl)
  subst e
  refine kitAny_cons (kit_ty h2) (fun e => ?_) (fun e => by rw [e]; rfl)
  subst e
  exact kitAny_nil
theorem walk_zipTT {K : PySem.W.Frag} {a b : Addr} {xs ys : List V} {n : Nat} (hn : n = min xs.length ys.length) : Walk (RZ.ItzT K a b) n (fun H => SqT K H a xs ∧ SqT K H b ys) (YPair (fun i => xs[i]?) (fun i => ys[i]?)) := by
  subst hn
  refine ⟨fun i _ hi q => ?_, fun _ q => ⟨xs, ys, q.1, q.2, by omega⟩, fun i H v H' _ q y => ?_⟩
  · have h1 : i < xs.length := by omega
    have h2 : i < ys.length := by omega
    exact ⟨xs, ys, xs[i], ys[i], q.1, q.2, by simp [h1], by simp [h2]⟩
  · obtain ⟨T, x, z, h1, h2, h3, h4, h5⟩ := y
    exact ⟨T, x, z, h1, h2, h3, h4 xs q.1, h5 ys q.2⟩
theorem fnok_never {P : Program} {w : World} {K : PySem.W.Frag} {mg : Str → Option Value} {base : Heap} {f : Addr} {fd : FuncData} {ps : List Str} {sp : Sp} {k : Nat} (h : ∀ vs H Q E, ¬ sp vs H Q E) : FnOk P w K mg base CX0 k f fd ps sp :=
  ⟨fun vs H Q E q => (h _ _ _ _ q).elim, fun A outer s H args us vs Q E hr he hb hv hs => (h _ _ _ _ hs).elim⟩
end K
namespace K
open PySem PySem.Spec PyProof.Rows L2
open Sw (T3 Dist at? relax roundOf rounds)
/-- a tie as it stands in a tuple -/
def tv (e : T3) : List V := [.int (e.1 : Nat), .int (e.2.1 : Nat), .int (e.2.2 : Nat)]
/-- a list of ties -/
def TiesAt (H : Hp) (t : Addr) (ts : List T3) : Prop := ∃ as : List Addr, H t = some (.lst (as.map V.ref)) ∧ Paired (fun a e => H a = some (.tup (tv e))) as ts
theorem paired_mono {α β : Type} {R R' : α → β → Prop} (h : ∀ a b, R a b → R' a b) : ∀ {xs : List α} {ys : List β}, Paired R xs ys → Paired R' xs ys
  | _, _, .nil => .nil
  | _, _, .cons r t => .cons (h _ _ r) (paired_mono h t)
theorem paired_len {α β : Type} {R : α → β → Prop} : ∀ {xs : List α} {ys : List β}, Paired R xs ys → xs.length = ys.length
  | _, _, .nil => rfl
  | _, _, .cons r t => by simp [paired_len t]
theorem TiesAt.same {H H' : Hp} {t : Addr} {ts : List T3} (h : TiesAt H t ts) (s : Same H H') : TiesAt H' t ts := by
  obtain ⟨as, h1, h2⟩ := h
  exact ⟨as, s _ _ h1, paired_mono (fun a e q => s _ _ q) h2⟩
/-- a price or None -/
def ov : Option Nat → V
  | none => .non
  | some n => .int (n : Nat)
/-- a list of prices stands at p -/
def DistAt (H : Hp) (p : Addr) (d : Dist) : Prop := H p = some (.lst (d.map ov))
theorem at_of {d : Dist} {v : Nat} (h : v < d.length) : (d.map ov)[v]? = some (ov (at? d v)) := by
  rw [List.getElem?_map, List.getElem?_eq_getElem h]
  unfold at?
  rw [List.getElem?_eq_getElem h]
  rfl
theorem set_ov (d : Dist) (v : Nat) (x : Option Nat) : (d.map ov).set v (ov x) = (d.set v x).map ov := by rw [List.map_set]
theorem ixN_nat {n j : Nat} (h : j < n) : ixN n (j : Int) = some j := by
  unfold ixN
  rw [if_pos (by omega), if_pos (by omega), Int.toNat_natCast]
/-- the ties both ways about, tie by tie -/
def both (ts : List T3) : List T3 := ts.flatMap fun e => [e, (e.2.1, e.1, e.2.2)]
theorem both_mem (ts : List T3) (e : T3) : e ∈ both ts ↔ (e ∈ ts ∨ (e.2.1, e.1, e.2.2) ∈ ts) := by
  unfold both
  rw [List.mem_flatMap]
  constructor
  · rintro ⟨x, hx, m⟩
    simp only [List.mem_cons, List.not_mem_nil, or_false] at m
    rcases m with q | q
    · exact .inl (q ▸ hx)
    · subst q; exact .inr hx
  · rintro (h | h)
    · exact ⟨e, h, by simp⟩
    · exact ⟨_, h, by simp⟩
/-- the least prices, as they are reckoned tie by tie -/
def farD (n : Nat) (ts : List T3) (g : Nat) : Dist := rounds (both ts) n (Sw.start n g)
/-- the ties lie below n -/
def Fits (n : Nat) (ts : List T3) : Prop := ∀ e ∈ ts, e.1 < n ∧ e.2.1 < n
theorem both_lt {n : Nat} {ts : List T3} (h : Fits n ts) : ∀ e ∈ both ts, e.1 < n ∧ e.2.1 < n := fun e m => by
  rcases (both_mem ts e).mp m with q | q
  · exact h e q
  · have := h _ q
    exact ⟨this.2, this.1⟩
theorem farD_is {n g : Nat} {ts : List T3} (h : Fits n ts) (hg : g < n) : Sw.IsFar (both ts) n g (farD n ts g) := Sw.far_is (both ts) (fun _ => Iff.rfl) (fun e m => (both_lt h e m).1) hg
def spCheck : Sp := fun vs H Q _ => ∃ (n g : Nat), vs = [.int (n : Nat), .int (g : Nat)] ∧ g < n ∧ Q .non H
def spCheap : Sp := fun vs H Q _ => ∃ (p : Addr) (d : Dist) (a b c : Nat), vs = [.ref p, .int (a : Nat), .int (b : Nat), .int (c : Nat)] ∧ DistAt H p d ∧ a < d.length ∧ b < d.length ∧ ∀ H', DistAt H' p (relax d (a, b, c)) → But p H H' → Q .non H'
def spFar : Sp := fun vs H Q _ => ∃ (n g : Nat) (t : Addr) (ts : List T3), vs = [.int (n : Nat), .ref t, .int (g : Nat)] ∧ g < n ∧ n ≤ 1000 ∧ TiesAt H t ts ∧ Fits n ts ∧ ∀ p H', H p = none → Same H H' → DistAt H' p (farD n ts g) → Q (.ref p) H'
end K
namespace K
open PySem PySem.Spec PyProof.Rows L2
open Sw (T3 Dist at? relax roundOf rounds)
/-- a row of pairs of houses, below n, the lesser one first -/
def PairsV (H : Hp) (n : Nat) (xs : List V) : Prop := ∃ (as : List Addr) (ps : List (Nat × Nat)), xs = as.map V.ref ∧ Paired (fun a p => H a = some (.tup [.int (p.1 : Nat), .int (p.2 : Nat)])) as ps ∧ ∀ p ∈ ps, p.1 < p.2 ∧ p.2 < n
theorem PairsV.at {H H' : Hp} {n : Nat} {xs : List V} (h : PairsV H n xs) (k : ∀ a ys, H a = some (.tup ys) → H' a = some (.tup ys)) : PairsV H' n xs := by
  obtain ⟨as, ps, e, h1, h2⟩ := h
  exact ⟨as, ps, e, paired_mono (fun a p q => k _ _ q) h1, h2⟩
theorem PairsV.nil {H : Hp} {n : Nat} : PairsV H n [] := ⟨[], [], rfl, .nil, fun p m => by cases m⟩
theorem paired_append {α β : Type} {R : α → β → Prop} : ∀ {xs xs' : List α} {ys ys' : List β}, Paired R xs ys → Paired R xs' ys' → Paired R (xs ++ xs') (ys ++ ys')
  | _, _, _, _, .nil, s => s
  | _, _, _, _, .cons r t, s => .cons r (paired_append t s)
theorem PairsV.append {H : Hp} {n : Nat} {xs ys : List V} (h : PairsV H n xs) (h' : PairsV H n ys) : PairsV H n (xs ++ ys) := by
  obtain ⟨as, ps, rfl, h1, h2⟩ := h
  obtain ⟨as', ps', rfl, h1', h2'⟩ := h'
  refine ⟨as ++ as', ps ++ ps', by rw [List.map_append], paired_append h1 h1', fun p m => ?_⟩
  rcases List.mem_append.mp m with q | q
  · exact h2 p q
  · exact h2' p q
theorem PairsV.one {H : Hp} {n i j : Nat} {a : Addr} (h : H a = some (.tup [.int (i : Nat), .int (j : Nat)])) (h1 : i < j) (h2 : j < n) : PairsV H n [.ref a] :=
  ⟨[a], [(i, j)], rfl, .cons h .nil, fun p m => by simp at m; subst m; exact ⟨h1, h2⟩⟩
theorem PairsV.flat {H : Hp} {n : Nat} : ∀ {xss : List (List V)}, (∀ xs ∈ xss, PairsV H n xs) → PairsV H n xss.flatten
  | [], _ => PairsV.nil
  | xs :: xss, h => (h xs List.mem_cons_self).append (PairsV.flat fun ys m => h ys (List.mem_cons_of_mem _ m))
theorem flat_len {α : Type} {n : Nat} : ∀ {xss : List (List α)}, (∀ xs ∈ xss, xs.length ≤ n) → xss.flatten.length ≤ xss.length * n
  | [], _ => by simp
  | xs :: xss, h => by
    have h1 := h xs List.mem_cons_self
    have h2 := flat_len (xss := xss) fun ys m => h ys (List.mem_cons_of_mem _ m)
    rw [List.flatten_cons, List.length_append, List.length_cons, Nat.succ_mul]
    omega
/-- good ties below n -/
def Good (n : Nat) (ts : List T3) : Prop := ∀ e ∈ ts, e.1 < e.2.1 ∧ e.2.1 < n ∧ 1 ≤ e.2.2 ∧ e.2.2 ≤ 9
theorem Good.fits {n : Nat} {ts : List T3} (h : Good n ts) : Fits n ts := fun e m => by have := h e m; omega
def spPairs : Sp := fun vs H Q _ => ∃ n : Nat, vs = [.int (n : Nat)] ∧ 0 < n ∧ n ≤ 8 ∧ ∀ (p : Addr) (H' : Hp) (xs : List V), H p = none → Same H H' → H' p = some (.lst xs) → PairsV H' n xs → xs.length ≤ 64 → Q (.ref p) H'
def spShuf : Sp := fun vs H Q _ => ∃ (p q t : Addr) (xs : List V), vs = [.ref p, .ref t] ∧ BoxAt H p q ∧ t ≠ p ∧ H t = some (.lst xs) ∧ xs.length ≤ 1000 ∧ ∀ (r : Addr) (H' : Hp) (ys : List V), H r = none → BoxAt H' p q → But p H H' → H' r = some (.lst ys) → ys.Perm xs → Q (.ref r) H'
def spSome : Sp := fun vs H Q _ => ∃ (p q : Addr) (n : Nat) (o : Int), vs = [.ref p, .int (n : Nat), .int o] ∧ BoxAt H p q ∧ 0 < n ∧ n ≤ 8 ∧ ∀ (r : Addr) (H' : Hp) (ts : List T3), H r = none → BoxAt H' p q → But p H H' → TiesAt H' r ts → Good n ts → ts.length ≤ 14 → Q (.ref r) H'
end K
namespace K
open PySem PySem.Spec PyProof.Rows L2
open Sw (T3 Dist at? relax roundOf rounds)
def tupData (e : T3) : PyData := .tuple [.int (e.1 : Nat), .int (e.2.1 : Nat), .int (e.2.2 : Nat)]
def tieData (ts : List T3) : PyData := .list (ts.map tupData)
theorem dp_ties {K : PySem.W.Frag} {H : Hp} {t : Addr} {ts : List T3} (h : TiesAt H t ts) : Dp K H (.ref t) (tieData ts) := by
  obtain ⟨as, h1, h2⟩ := h
  refine .lst (SqL.of h1) ?_
  clear h1
  induction h2 with
  | nil => exact .nil
  | cons r _ ih => exact .cons (.tup (SqT.of r) (.cons (.int _) (.cons (.int _) (.cons (.int _) .nil)))) ih
theorem lay_ties (ts : List T3) : PyData.canLayAll0 (ts.map tupData) = true := by
  induction ts with
  | nil => simp [PyData.canLayAll0]
  | cons e ts ih => simp [PyData.canLayAll0, PyData.canLay0, tupData, ih]
theorem depth_ties (ts : List T3) : PyData.depthAll (ts.map tupData) ≤ 2 := by
  induction ts with
  | nil => simp [PyData.depthAll]
  | cons e ts ih =>
    have h1 : (tupData e).depth ≤ 2 := by simp [tupData, PyData.depth, PyData.depthAll]
    simp only [List.map_cons, PyData.depthAll]
    omega
theorem shaped_ties (ts : List T3) : SeqAt.shaped (tieData ts) = true := by
  unfold SeqAt.shaped tieData
  have h1 := lay_ties ts
  have h2 := depth_ties ts
  have h3 : (PyData.list (ts.map tupData)).canLay0 = true := by simpa [PyData.canLay0] using h1
  have h4 : (PyData.list (ts.map tupData)).depth ≤ 64 := by
    have e : (PyData.list (ts.map tupData)).depth = PyData.depthAll (ts.map tupData) + 1 := by simp [PyData.depth, Nat.add_comm]
    omega
  rw [h3, decide_eq_true h4]
  rfl
/-- the law's own going round -/
def swp (e : T3) : T3 := (e.2.1, e.1, e.2.2)
def lfarD (n : Nat) (ts : List T3) (g : Nat) : Dist := rounds (ts ++ ts.map swp) n (Sw.start n g)
theorem lfar_mem (ts : List T3) (e : T3) : e ∈ both ts ↔ e ∈ ts ++ ts.map swp := by
  rw [both_mem, List.mem_append, List.mem_map]
  constructor
  · rintro (h | h)
    · exact .inl h
    · exact .inr ⟨_, h, rfl⟩
  · rintro (h | ⟨x, hx, rfl⟩)
    · exact .inl h
    · exact .inr hx
theorem lfarD_is {n g : Nat} {ts : List T3} (h : Fits n ts) (hg : g < n) : Sw.IsFar (both ts) n g (lfarD n ts g) := Sw.far_is _ (lfar_mem ts) (fun e m => (both_lt h e m).1) hg
theorem far_lfar {n g : Nat} {ts : List T3} (h : Fits n ts) (hg : g < n) : lfarD n ts g = farD n ts g := Sw.far_one (lfarD_is h hg) (farD_is h hg)
def spLFar : Sp := fun vs H Q _ => ∃ (n g : Nat) (t : Addr) (ts : List T3), vs = [.int (n : Nat), .ref t, .int (g : Nat)] ∧ g < n ∧ n ≤ 1000 ∧ TiesAt H t ts ∧ ts.length ≤ 400 ∧ Fits n ts ∧ ∀ p H', H p = none → Same H H' → DistAt H' p (lfarD n ts g) → Q (.ref p) H'
theorem ov_flat (x : Option Nat) : flat (ov x) = true := by cases x <;> rfl
theorem eqv_dist {H : Hp} {a b : Addr} {d : Dist} {m : Nat} (h1 : DistAt H a d) (h2 : DistAt H b d) (hl : d.length ≤ 1000) : Eqv (m + 2) H (.ref a) (.ref b) := by
  refine .inr ⟨a, b, _, _, rfl, rfl, .inl ⟨h1, h2⟩, rfl, by rw [List.length_map]; exact hl, fun i u v hu hv => ?_⟩
  rw [hu] at hv
  cases hv
  rw [List.getElem?_map] at hu
  obtain ⟨x, _, rfl⟩ := Option.map_eq_some_iff.mp hu
  exact .inl ⟨rfl, ov_flat x⟩
/-- the law: a list of at most 63 ints is handed in, True comes out -/
def spLaw (K : PySem.W.Frag) : Sp := fun vs H Q _ => ∃ (a : Addr) (ns : List Int), vs = [.ref a] ∧ SqL K H a (ns.map V.int) ∧ ns.length ≤ 63 ∧ ∀ H', Q (.bl true) H'
theorem paired_pick {α β : Type} {R : α → β → Prop} : ∀ {xs : List α} {ys : List β}, Paired R xs ys → ∀ xs' : List α, (∀ x ∈ xs', x ∈ xs) → ∃ ys' : List β, Paired R xs' ys' ∧ ∀ y ∈ ys', y ∈ ys
  | xs, ys, h, [], _ => ⟨[], .nil, fun y m => by cases m⟩
  | xs, ys, h, x :: xs', hs => by
    obtain ⟨i, hi, e⟩ := List.getElem_of_mem (hs x List.mem_cons_self)
    obtain ⟨y, ey, r⟩ := paired_at h i x (by rw [List.getElem?_eq_getElem hi, e])
    obtain ⟨ys', h1, h2⟩ := paired_pick h xs' fun z m => hs z (List.mem_cons_of_mem _ m)
    refine ⟨y :: ys', .cons r h1, fun z m => ?_⟩
    rcases List.mem_cons.mp m with q | q
    · subst q; exact List.mem_of_getElem? ey
    · exact h2 z q
theorem perm_refs {as : List Addr} {ys : List V} (h : ys.Perm (as.map V.ref)) : ∃ bs : List Addr, ys = bs.map V.ref ∧ bs.Perm as := by
  have hm : ∀ y ∈ ys, ∃ b, y = V.ref b := fun y m => by
    obtain ⟨b, _, e⟩ := List.mem_map.mp (h.mem_iff.mp m)
    exact ⟨b, e.symm⟩
  have key : ∀ zs : List V, (∀ y ∈ zs, ∃ b, y = V.ref b) → ∃ bs : List Addr, zs = bs.map V.ref := by
    intro zs
    induction zs with
    | nil => intro _; exact ⟨[], rfl⟩
    | cons z zs ih =>
      intro hz
      obtain ⟨b, e⟩ := hz z List.mem_cons_self
      obtain ⟨bs, e2⟩ := ih fun y m => hz y (List.mem_cons_of_mem _ m)
      exact ⟨b :: bs, by rw [e, e2]; rfl⟩
  obtain ⟨bs, e⟩ := key ys hm
  refine ⟨bs, e, ?_⟩
  rw [e] at h
  have h2 := h.map (fun v => match v with | V.ref a => a | _ => 0)
  rw [List.map_map, List.map_map] at h2
  have e1 : ∀ l : List Addr, l.map ((fun v => match v with | V.ref a => a | _ => 0) ∘ V.ref) = l := fun l => by
    induction l with
    | nil => rfl
    | cons x l ih => rw [List.map_cons, ih]; rfl
  rw [e1, e1] at h2
  exact h2
end K

namespace K
open PySem PySem.Spec PyProof.Rows L2
/-- a def that can be called: its promise, its name, its place, how its arguments bind -/
structure Cal (P : Program) (w : World) (K : PySem.W.Frag) (mg : Str → Option Value) (base : Heap) (k : Nat) (x : Str) (f : Addr) (fd : FuncData) (ps : List Str) (sp : Sp) : Prop where
  ok : FnOk P w K mg base CX0 k f fd ps sp
  g : mg x = some (.ref f)
  kp : PySem.W.keepIn K (.ref f) = true
  b : Binds K fd ps []
/-- the built-in names that the text reads stand for the built-in things -/
structure BT (mg : Str → Option Value) : Prop where
  len : mg "len" = none
  range : mg "range" = none
  list : mg "list" = none
  tuple : mg "tuple" = none
  isinstance : mg "isinstance" = none
  bool : mg "bool" = none
  int : mg "int" = none
  str : mg "str" = none
  all : mg "all" = none
  zip : mg "zip" = none
  sum : mg "sum" = none
  min : mg "min" = none
  sorted : mg "sorted" = none
  abs : mg "abs" = none
  enumerate : mg "enumerate" = none
end K

namespace K
open PySem PySem.Spec PyProof.Rows L2
open Sw (T3 Dist at? relax roundOf rounds)
theorem rep_non (n : Nat) : (List.replicate n [V.non]).flatten = (List.replicate n (none : Option Nat)).map ov := by
  induction n with
  | zero => rfl
  | succ n ih => rw [List.replicate_succ, List.replicate_succ, List.flatten_cons, ih]; rfl
theorem take_succ_of {α : Type} {l : List α} {i : Nat} {x : α} (h : l[i]? = some x) : l.take (i + 1) = l.take i ++ [x] := by
  rw [List.take_add_one, h]; rfl
theorem both_snoc (ts : List T3) (e : T3) : both (ts ++ [e]) = both ts ++ [e, (e.2.1, e.1, e.2.2)] := by
  unfold both
  rw [List.flatMap_append]
  simp
theorem roundOf_append (L M : List T3) (d : Dist) : roundOf (L ++ M) d = roundOf M (roundOf L d) := List.foldl_append
theorem map_ref_at {as : List Addr} {i : Nat} {y : V} (h : (as.map V.ref)[i]? = some y) : ∃ a, as[i]? = some a ∧ y = .ref a := by
  rw [List.getElem?_map] at h
  obtain ⟨a, e, q⟩ := Option.map_eq_some_iff.mp h
  exact ⟨a, e, q.symm⟩
end K
namespace K
open PySem PySem.Spec PyProof.Rows L2
open Sw (T3 Dist at? relax roundOf rounds IsNext Cand IsFar nbr candL)
/-- a row of neighbours (house, price) -/
def NbrAt (H : Hp) (p : Addr) (L : List (Nat × Nat)) : Prop := ∃ as : List Addr, H p = some (.lst (as.map V.ref)) ∧ Paired (fun a q => H a = some (.tup [.int (q.1 : Nat), .int (q.2 : Nat)])) as L
theorem NbrAt.same {H H' : Hp} {p : Addr} {L : List (Nat × Nat)} (h : NbrAt H p L) (s : Same H H') : NbrAt H' p L := by
  obtain ⟨as, h1, h2⟩ := h
  exact ⟨as, s _ _ h1, paired_mono (fun a q e => s _ _ e) h2⟩
theorem nbr_both (ts : List T3) (h u c : Nat) : (u, c) ∈ nbr ts h ↔ (h, u, c) ∈ both ts := by
  rw [Sw.nbr_mem, both_mem]
theorem both_sym (ts : List T3) : ∀ a b c, (a, b, c) ∈ both ts → (b, a, c) ∈ both ts := fun a b c m => by
  rw [both_mem] at m ⊢
  exact m.symm
def spNbr : Sp := fun vs H Q _ => ∃ (t : Addr) (ts : List T3) (h : Nat), vs = [.ref t, .int (h : Nat)] ∧ TiesAt H t ts ∧ ts.length ≤ 400 ∧ ∀ p H', H p = none → Same H H' → NbrAt H' p (nbr ts h) → Q (.ref p) H'
def spNextH : Sp := fun vs H Q _ => ∃ (p t : Addr) (d : Dist) (ts : List T3) (n g h : Nat), vs = [.ref p, .ref t, .int (g : Nat), .int (h : Nat)] ∧ DistAt H p d ∧ TiesAt H t ts ∧ ts.length ≤ 400 ∧ Fits n ts ∧ IsFar (both ts) n g d ∧ h < n ∧
  ∀ x H', IsNext (both ts) d g h x → Same H H' → Q (ov x) H'
/-- the list of next houses -/
def NextsAt (H : Hp) (p : Addr) (E : List T3) (d : Dist) (n g : Nat) : Prop := ∃ xs : List (Option Nat), H p = some (.lst (xs.map ov)) ∧ xs.length = n ∧ ∀ h < n, IsNext E d g h (at? xs h)
def spNexts : Sp := fun vs H Q _ => ∃ (n g : Nat) (t : Addr) (ts : List T3), vs = [.int (n : Nat), .ref t, .int (g : Nat)] ∧ g < n ∧ n ≤ 1000 ∧ TiesAt H t ts ∧ ts.length ≤ 400 ∧ Fits n ts ∧ ∀ p H', H p = none → Same H H' → NextsAt H' p (both ts) (farD n ts g) n g → Q (.ref p) H'
def spLNext : Sp := fun vs H Q _ => ∃ (n g h : Nat) (t : Addr) (ts : List T3), vs = [.int (n : Nat), .ref t, .int (h : Nat), .int (g : Nat)] ∧ g < n ∧ h < n ∧ n ≤ 1000 ∧ TiesAt H t ts ∧ ts.length ≤ 400 ∧ Good n ts ∧
  ∀ x H', IsNext (both ts) (farD n ts g) g h x → Same H H' → Q (ov x) H'
theorem nexts_eqv {H : Hp} {a b : Addr} {E : List T3} {d : Dist} {n g m : Nat} (h1 : NextsAt H a E d n g) (h2 : NextsAt H b E d n g) (hn : n ≤ 1000) : Eqv (m + 2) H (.ref a) (.ref b) := by
  obtain ⟨xs, e1, l1, n1⟩ := h1
  obtain ⟨ys, e2, l2, n2⟩ := h2
  have e : xs = ys := by
    refine List.ext_getElem? fun i => ?_
    by_cases hi : i < n
    · have := Sw.next_one (n1 i hi) (n2 i hi)
      unfold at? at this
      rw [List.getElem?_eq_getElem (by omega), List.getElem?_eq_getElem (by omega)] at this ⊢
      simpa using this
    · rw [List.getElem?_eq_none (by omega), List.getElem?_eq_none (by omega)]
  subst e
  exact eqv_dist e1 e2 (by omega)
theorem NextsAt.same {H H' : Hp} {p : Addr} {E : List T3} {d : Dist} {n g : Nat} (h : NextsAt H p E d n g) (s : Same H H') : NextsAt H' p E d n g := by
  obtain ⟨xs, h1, h2⟩ := h
  exact ⟨xs, s _ _ h1, h2⟩
end K
namespace K
open PySem PySem.Spec PyProof.Rows L2
open Sw (T3 Dist at? relax roundOf rounds IsNext Cand IsFar nbr candL)
theorem tv_inj {e u : T3} (h : tv e = tv u) : e = u := by
  obtain ⟨a, b, c⟩ := e
  obtain ⟨a', b', c'⟩ := u
  unfold tv at h
  injection h with h1 h
  injection h with h2 h
  injection h with h3 _
  injection h1 with h1
  injection h2 with h2
  injection h3 with h3
  have h1 : (a : Int) = a' := h1
  have h2 : (b : Int) = b' := h2
  have h3 : (c : Int) = c' := h3
  have q1 : a = a' := by omega
  have q2 : b = b' := by omega
  have q3 : c = c' := by omega
  rw [q1, q2, q3]
theorem ties_mem {H : Hp} {as : List Addr} {ts : List T3} (h : Paired (fun a e => H a = some (.tup (tv e))) as ts) (e : T3) : e ∈ ts ↔ ∃ a ∈ as, H a = some (.tup (tv e)) := by
  induction h with
  | nil => exact ⟨fun m => (by cases m), fun ⟨a, m, _⟩ => (by cases m)⟩
  | @cons a u as ts r _ ih =>
    constructor
    · intro m
      rcases List.mem_cons.mp m with q | q
      · subst q; exact ⟨a, List.mem_cons_self, r⟩
      · obtain ⟨b, m2, e2⟩ := ih.mp q
        exact ⟨b, List.mem_cons_of_mem _ m2, e2⟩
    · rintro ⟨b, m, e2⟩
      rcases List.mem_cons.mp m with q | q
      · subst q
        rw [r] at e2
        injection e2 with e2
        injection e2 with e2
        rw [tv_inj e2]
        exact List.mem_cons_self
      · exact List.mem_cons_of_mem _ (ih.mpr ⟨b, q, e2⟩)
theorem both_iff {ts us : List T3} (h : ∀ e, (e ∈ us ∨ swp e ∈ us) ↔ (e ∈ ts ∨ swp e ∈ ts)) (e : T3) : e ∈ both us ↔ e ∈ both ts := by
  rw [both_mem, both_mem]
  exact h e
theorem swapped_iff {us ts : List T3} (h : Paired (fun u e => u = e ∨ u = swp e) us ts) (e : T3) : (e ∈ us ∨ swp e ∈ us) ↔ (e ∈ ts ∨ swp e ∈ ts) := by
  induction h with
  | nil => exact ⟨fun m => m, fun m => m⟩
  | @cons u x us ts r _ ih =>
    have key : (e = u ∨ swp e = u) ↔ (e = x ∨ swp e = x) := by
      rcases r with q | q
      · rw [q]
      · subst q
        obtain ⟨a, b, c⟩ := e
        obtain ⟨a', b', c'⟩ := x
        unfold swp
        simp only [Prod.mk.injEq]
        constructor
        · rintro (⟨h1, h2, h3⟩ | ⟨h1, h2, h3⟩)
          · exact .inr ⟨h2, h1, h3⟩
          · exact .inl ⟨h2, h1, h3⟩
        · rintro (⟨h1, h2, h3⟩ | ⟨h1, h2, h3⟩)
          · exact .inr ⟨h2, h1, h3⟩
          · exact .inl ⟨h2, h1, h3⟩
    simp only [List.mem_cons]
    constructor
    · rintro ((q | q) | (q | q))
      · rcases key.mp (.inl q) with z | z
        · exact .inl (.inl z)
        · exact .inr (.inl z)
      · rcases ih.mp (.inl q) with z | z
        · exact .inl (.inr z)
        · exact .inr (.inr z)
      · rcases key.mp (.inr q) with z | z
        · exact .inl (.inl z)
        · exact .inr (.inl z)
      · rcases ih.mp (.inr q) with z | z
        · exact .inl (.inr z)
        · exact .inr (.inr z)
    · rintro ((q | q) | (q | q))
      · rcases key.mpr (.inl q) with z | z
        · exact .inl (.inl z)
        · exact .inr (.inl z)
      · rcases ih.mpr (.inl q) with z | z
        · exact .inl (.inr z)
        · exact .inr (.inr z)
      · rcases key.mpr (.inr q) with z | z
        · exact .inl (.inl z)
        · exact .inr (.inl z)
      · rcases ih.mpr (.inr q) with z | z
        · exact .inl (.inr z)
        · exact .inr (.inr z)
theorem farD_cong {n g : Nat} {ts us : List T3} (h1 : Fits n ts) (h2 : Fits n us) (hg : g < n) (h : ∀ e, e ∈ both us ↔ e ∈ both ts) : farD n us g = farD n ts g :=
  Sw.far_one (Sw.far_cong h (farD_is h2 hg)) (farD_is h1 hg)
theorem NextsAt.cong {H : Hp} {p : Addr} {E E' : List T3} {d : Dist} {n g : Nat} (he : ∀ e, e ∈ E ↔ e ∈ E') (h : NextsAt H p E d n g) : NextsAt H p E' d n g := by
  obtain ⟨xs, h1, h2, h3⟩ := h
  exact ⟨xs, h1, h2, fun i hi => Sw.next_cong he (h3 i hi)⟩
theorem fits_of {n : Nat} {ts us : List T3} (h : Fits n ts) (he : ∀ e, e ∈ both us ↔ e ∈ both ts) : Fits n us := fun e m => both_lt h e ((he e).mp ((both_mem us e).mpr (.inl m)))
end K

namespace PySem
namespace F
theorem args_minD (a d : Value) : argsOk "min" ⟨[a], [(Str.ofString "default", d)]⟩ := by unfold argsOk; kernel_rfl
end F
section
variable {prog : Program} {w : World} {A : Around} {E : Value → Shared → Prop} {s : Shared}
/-- a built-in's call with keywords, where the built-in goes on as another one -/
theorem call_tree_kw {id : String} {b : Builtin} {args : List Value} {kw : List (Str × Value)} {Q : Value → Shared → Prop} (hk : builtinKind id = none) (hp : plainId id = true) (hb : entryFor table id = some b) (ha : argsOk id ⟨args, kw⟩)
    (hc : wpAny (model prog w) A.in1 (b ⟨args, kw⟩) (fun fin s' => match fin with
      | .done f => (match (Except.ok f : Result) with | .ok (.ret v) => Q v s' | .ok _ => False | .error e => E e s')
      | .again c' => c'.quiet = true ∧ codeAny (model prog w) A c' (fun r s' => match r with | .ok (.ret v) => Q v s' | .ok _ => False | .error e => E e s') s') E s) : wpAny (model prog w) A (call (.builtin id) args kw) Q E s := by
  refine wpAny_call (codeAny_call_builtin hp hb ?_)
  simp only [checkBuiltinCall, hk]
  cases hsig : Manifest.signature? id with
  | none => exact wpAny_pure hc
  | some sig =>
    have hz : Bind.checkArgs id sig ⟨args, kw⟩ = pure () := by simpa only [argsOk, hsig] using ha
    show wpAny _ A.in1 (Bind.checkArgs id sig ⟨args, kw⟩) _ _ s
    rw [hz]; exact wpAny_pure hc
end
section
variable {prog : Program} {w : World} {A : Around} {R : Result → Shared → Prop} {I : Addr} {fp wr : List Addr} {n : Nat} {P : Nat → Value → Prop} {St : Nat → Heap → Prop}
theorem minD_name : (toString "min" ++ toString ".loop" : String) = "min.loop" := by decide
theorem minD_loop (d : Value) (W : Walks prog w A.in1 I fp wr n P St) (bt : Nat → Nat → Bool) (hcmp : CmpOf prog w A.in1 .Lt P bt) (S : Addr) (hSf : S ∉ fp) :
    ∀ (k j : Nat) (s : Shared) (vb : Value) (c : Nat), n - (j + 1) = k → j + 1 ≤ n → St (j + 1) s.heap → P (argBest bt j) vb → s.heap.get? S = some { cls := .type "list", dict := none, data := .seq #[vb, vb] c, slots := #[] } →
    (∀ v h' tk, P (argBest bt (n - 1)) v → (∀ b o, b ∉ wr → b ≠ S → s.heap.get? b = some o → h'.get? b = some o) → R (.ok (.ret v)) { s with heap := h', toks := tk }) → codeAny (model prog w) A (.builtin "min.loop" ⟨[.ref I, .none, .ref S], [(Str.ofString "default", d)]⟩) R s := by
  have nS : S ∉ wr := fun h => hSf (W.sub _ h)
  intro k
  induction k with
  | zero =>
    intro j s vb c hk hj st pb e0 hR
    have hin : j + 1 = n := by omega
    refine codeAny_builtin F.entry_min_loop ?_
    rw [Around.under_plainId F.plain_min_loop _]
    show wpAny _ A.in1 (seqItems? (.ref S) >>= _) _ _ s
    refine wpAny_bind (wpAny_seqItems e0 rfl ?_)
    show wpAny _ A.in1 (tryCatch (pyNext (.ref I)) _ >>= _) _ _ s
    refine wpAny_bind (wpAny_tryCatch (W.done s _ _ (hin ▸ st) fun h' tk keep => ?_))
    have e1 := keep S _ nS e0
    show wpAny _ A.in1 (updateSeq S (fun _ => #[]) >>= _) _ _ _
    refine wpAny_bind (wpAny_updateSeq e1 rfl (wpAny_bind (wpAny_letGo (wpAny_pure ?_))))
    exact hR vb _ tk (by rw [← hin]; exact pb) fun b o hbw hbS e => (Heap.get?_update_other _ _ (Ne.symm hbS)).trans (keep b o hbw e)
  | succ k ih =>
    intro j s vb c hk hj st pb e0 hR
    have hlt : j + 1 < n := by omega
    refine codeAny_builtin F.entry_min_loop ?_
    rw [Around.under_plainId F.plain_min_loop _]
    show wpAny _ A.in1 (seqItems? (.ref S) >>= _) _ _ s
    refine wpAny_bind (wpAny_seqItems e0 rfl ?_)
    show wpAny _ A.in1 (tryCatch (pyNext (.ref I)) _ >>= _) _ _ s
    refine wpAny_bind (wpAny_tryCatch (W.item (j + 1) s _ _ hlt st fun v h' tk pv st' keep => ?_))
    have e1 := keep S _ nS e0
    show wpAny _ A.in1 (tryCatch (holding [v, v] (richCompare .Lt v vb >>= _)) _ >>= _) _ _ _
    refine wpAny_bind (wpAny_tryCatch (wpAny_holding (wpAny_bind (hcmp (j + 1) (argBest bt j) v vb _ _ _ pv pb ?_))))
    refine wpAny_bind (wpAny_holding (wpAny_truthy_bool (wpAny_bind (wpAny_letGo (wpAny_pure ?_)))))
    cases hb : bt (j + 1) (argBest bt j) with
    | true =>
      simp only [if_true]
      refine wpAny_bind (wpAny_updateSeq e1 rfl (wpAny_bind (wpAny_letGo ?_)))
      rw [minD_name]
      refine wpAny_pure ⟨plainId_quiet F.plain_min_loop _, ih (j + 1) _ v _ (by omega) hlt (W.frame _ _ _ st' fun b hbf o e => (Heap.get?_update_other _ _ (fun h : S = b => hSf (by rw [h]; exact hbf))).trans e) (by simp only [argBest, hb, if_true]; exact pv) (Heap.get?_update_self _ e1 rfl) fun v' h2 tk2 pv' keep2 => ?_⟩
      exact hR v' h2 tk2 pv' fun b o hbw hbS e => keep2 b o hbw hbS ((Heap.get?_update_other _ _ (Ne.symm hbS)).trans (keep b o hbw e))
    | false =>
      simp only [Bool.false_eq_true, if_false]
      refine wpAny_bind (wpAny_letGo ?_)
      rw [minD_name]
      refine wpAny_pure ⟨plainId_quiet F.plain_min_loop _, ih (j + 1) _ vb c (by omega) hlt st' (by simp only [argBest, hb, Bool.false_eq_true, if_false]; exact pb) e1 fun v' h2 tk2 pv' keep2 => ?_⟩
      exact hR v' h2 tk2 pv' fun b o hbw hbS e => keep2 b o hbw hbS (keep b o hbw e)
theorem minD_first (d : Value) (W : Walks prog w A.in1 I fp wr n P St) (bt : Nat → Nat → Bool) (hcmp : CmpOf prog w A.in1 .Lt P bt) (S : Addr) (hSf : S ∉ fp) {s : Shared} {c : Nat} (st : St 0 s.heap) (e0 : s.heap.get? S = some { cls := .type "list", dict := none, data := .seq #[] c, slots := #[] })
    (h0 : n = 0 → ∀ h' tk, (∀ b o, b ∉ wr → b ≠ S → s.heap.get? b = some o → h'.get? b = some o) → R (.ok (.ret d)) { s with heap := h', toks := tk })
    (hR : 0 < n → ∀ v h' tk, P (argBest bt (n - 1)) v → (∀ b o, b ∉ wr → b ≠ S → s.heap.get? b = some o → h'.get? b = some o) → R (.ok (.ret v)) { s with heap := h', toks := tk }) :
    codeAny (model prog w) A (.builtin "min.loop" ⟨[.ref I, .none, .ref S], [(Str.ofString "default", d)]⟩) R s := by
  have nS : S ∉ wr := fun h => hSf (W.sub _ h)
  refine codeAny_builtin F.entry_min_loop ?_
  rw [Around.under_plainId F.plain_min_loop _]
  show wpAny _ A.in1 (seqItems? (.ref S) >>= _) _ _ s
  refine wpAny_bind (wpAny_seqItems e0 rfl ?_)
  show wpAny _ A.in1 (tryCatch (pyNext (.ref I)) _ >>= _) _ _ s
  by_cases hn : 0 < n
  · refine wpAny_bind (wpAny_tryCatch (W.item 0 s _ _ hn st fun v h' tk pv st' keep => ?_))
    have e1 := keep S _ nS e0
    show wpAny _ A.in1 (updateSeq S (fun _ => #[v, v]) >>= _) _ _ _
    refine wpAny_bind (wpAny_updateSeq e1 rfl ?_)
    rw [minD_name]
    refine wpAny_pure ⟨plainId_quiet F.plain_min_loop _, minD_loop d W bt hcmp S hSf _ 0 _ v _ rfl hn (W.frame _ _ _ st' fun b hbf o e => (Heap.get?_update_other _ _ (fun h : S = b => hSf (by rw [h]; exact hbf))).trans e) pv (Heap.get?_update_self _ e1 rfl) fun v' h2 tk2 pv' keep2 => ?_⟩
    exact hR hn v' h2 tk2 pv' fun b o hbw hbS e => keep2 b o hbw hbS ((Heap.get?_update_other _ _ (Ne.symm hbS)).trans (keep b o hbw e))
  · have hz : n = 0 := by omega
    refine wpAny_bind (wpAny_tryCatch (W.done s _ _ (hz ▸ st) fun h' tk keep => ?_))
    refine wpAny_bind (wpAny_rule (wpAny_pure ?_))
    exact h0 hz h' tk fun b o hbw _ e => keep b o hbw e
end
section
variable {prog : Program} {w : World} {A : Around} {E : Value → Shared → Prop} {s : Shared}
theorem call_minD {x d : Value} {Q : Value → Shared → Prop}
    (h : wpAny (model prog w) A.in1 (pyIter x) (fun it s₂ => ∃ I fp wr n P St bt, it = .ref I ∧ Walks prog w A.in1 I fp wr n P St ∧ St 0 s₂.heap ∧ (∀ b ∈ fp, b < s₂.heap.objs.size) ∧ CmpOf prog w A.in1 .Lt P bt ∧
      (n = 0 → ∀ h' tk, (∀ b o, b ∉ wr → s₂.heap.get? b = some o → h'.get? b = some o) → Q d { s₂ with heap := h', toks := tk }) ∧
      (0 < n → ∀ v h' tk, P (argBest bt (n - 1)) v → (∀ b o, b ∉ wr → s₂.heap.get? b = some o → h'.get? b = some o) → Q v { s₂ with heap := h', toks := tk })) E s) :
    wpAny (model prog w) A (call (.builtin "min") [x] [(Str.ofString "default", d)]) Q E s := by
  refine call_tree_kw F.kind_min F.plain_min F.entry_min (F.args_minD _ _) ?_
  show wpAny _ A.in1 (Builtin.Builtins.bindParams "min" ["key", "default"] 0 ⟨[], [(Str.ofString "default", d)]⟩ >>= _) _ _ s
  refine wpAny_bind (wpAny_of_eq (show Builtin.Builtins.bindParams "min" ["key", "default"] 0 ⟨[], [(Str.ofString "default", d)]⟩ = pure [none, some d] from rfl) ?_)
  refine wpAny_bind (wpAny_pure (wpAny_bind (wpAny_mono h (fun it s₂ h₂ => ?_) fun _ _ e => e)))
  obtain ⟨I, fp, wr, n, P, St, bt, rfl, W, hst, hfp, hcmp, hQ0, hQ⟩ := h₂
  refine wpAny_bind (wpAny_newObj_type ?_)
  have nS : s₂.heap.objs.size ∉ fp := fun hm => Nat.lt_irrefl _ (hfp _ hm)
  rw [minD_name]
  refine wpAny_pure ⟨plainId_quiet F.plain_min_loop _, minD_first d W bt hcmp s₂.heap.objs.size nS (W.frame _ _ _ hst fun b _ o e => Heap.get?_push_of_some _ e) (Heap.get?_push_size _ rfl) (fun hz h' tk keep => ?_) (fun hn v h' tk pv keep => ?_)⟩
  · exact hQ0 hz h' tk fun b o hbw e => keep b o hbw (Nat.ne_of_lt (Heap.lt_size e)) (Heap.get?_push_of_some _ e)
  · exact hQ hn v h' tk pv fun b o hbw e => keep b o hbw (Nat.ne_of_lt (Heap.lt_size e)) (Heap.get?_push_of_some _ e)
end
end PySem
namespace L2
open PySem PySem.Spec PyProof.Rows
section
variable {X : Cx}
/-- min(xs, default=d) of a list of ints -/
def rMinD (K : PySem.W.Frag) : List V → List V → Hp → VK → Prop := fun vs zs H Q => ∃ (a : Addr) (ns : List Int) (d : V), vs = [V.ref a] ∧ zs = [d] ∧ SqL K H a (ns.map V.int) ∧ (ns = [] → Q d H) ∧ ∀ m, m ∈ ns → (∀ y, y ∈ ns → m ≤ y) → Q (.int m) H
theorem cr_minD (hc : X.calm = true) : CallRK X (.builtin "min") ["default"] (rMinD X.K) := by
  intro pins s σ H vs zs us ws Q I r r2 h
  obtain ⟨a, ns, d, rfl, rfl, hs, q0, q⟩ := h
  obtain ⟨its, rv, hl, _⟩ := I.list hs
  rw [Vals.ref1 r]
  cases r2 with
  | @cons _ u _ _ rd rn =>
  cases rn
  have hi := rv.ints
  have hlen := hi.length
  have hat : ∀ (i : Nat) (v : Value), its.toArray[i]? = some v → ∃ t, v = .int (ns.getD i 0) t := fun i v hv => by
    have hv' : its[i]? = some v := by simpa using hv
    have hlt : i < its.length := (List.getElem?_eq_some_iff.mp hv').1
    obtain ⟨w, hw, rw'⟩ := rv.get (i := i) (x := .int (ns.getD i 0)) (by
      rw [List.getElem?_map, List.getD_eq_getElem?_getD, List.getElem?_eq_getElem (by omega : i < ns.length)]
      rfl)
    rw [hv'] at hw
    cases hw
    exact rw'
  show wpAny _ _ (call (.builtin "min") [.ref a] [(Str.ofString "default", u)]) _ _ _
  refine call_minD (iter_any hl.isList fun s₂ e2 st hne => ?_)
  subst e2
  refine ⟨_, _, _, _, _, _, _, rfl, Walks.list (A := X.A.in1) (I.ok.hd hc) _ a hne its.toArray, st, ?_, CmpOf.ints_lt (fun i => ns.getD i 0) hat, fun hz h' tk hk => ?_, fun hn v h' tk hP hk => ?_⟩
  · intro b hb
    have hsz := Heap.size_push s.heap { cls := .type "list_iterator", data := .fields #[.ref a, .int 0 0] }
    show b < (s.heap.push _).objs.size
    rw [hsz]
    rcases List.mem_cons.mp hb with e1 | hb
    · rw [e1]; exact Nat.lt_succ_self _
    · rw [List.mem_singleton.mp hb]
      obtain ⟨_, e, _⟩ := hl.isList
      exact Nat.lt_succ_of_lt (Heap.lt_size e)
  · refine ⟨d, H, I.kept fun b o eo => hk b o (fun hmem => ?_) (Heap.get?_push_of_some _ eo), rd, q0 ?_⟩
    · rw [List.mem_singleton] at hmem
      exact absurd (hmem ▸ Heap.lt_size eo) (Nat.lt_irrefl _)
    · rw [List.size_toArray] at hz
      cases ns with
      | nil => rfl
      | cons => simp at hlen; omega
  · obtain ⟨t, rfl⟩ := hat _ _ hP
    obtain ⟨h1, h2⟩ := argBest_lt (fun i => ns.getD i 0) (its.toArray.size - 1)
    rw [List.size_toArray] at hn h1 h2 ⊢
    refine ⟨.int _, H, I.kept fun b o eo => hk b o (fun hmem => ?_) (Heap.get?_push_of_some _ eo), ⟨t, rfl⟩, q _ ?_ fun y hy => ?_⟩
    · rw [List.mem_singleton] at hmem
      exact absurd (hmem ▸ Heap.lt_size eo) (Nat.lt_irrefl _)
    · have hlt : argBest (fun i j => decide (ns.getD i 0 < ns.getD j 0)) (its.length - 1) < ns.length := by omega
      rw [List.getD_eq_getElem?_getD, List.getElem?_eq_getElem hlt]
      exact List.getElem_mem hlt
    · obtain ⟨j, hj, rfl⟩ := List.getElem_of_mem hy
      have := h2 j (by omega)
      rw [List.getD_eq_getElem?_getD (i := j), List.getElem?_eq_getElem hj] at this
      exact this
end
end L2

namespace PySem
open Sem
/-- the text of a list, whatever is under way -/
theorem list_repr_any {M : Model} {A : Around} {E : Value → Shared → Prop} {s : Shared} {Q : Fin → Shared → Prop} {a : Addr} {o : Obj} {x : Value} {l : List Value} {n b : Nat} (hget : s.heap.get? a = some o) (hd : o.data = .seq (x :: l).toArray n)
    (h1 : ∀ u tk, Q (.done (.ret (.str "[...]" u))) { s with toks := tk }) (h2 : wpAny M A (do again (.builtin "list.__repr__.loop" ⟨[.ref a, rawInt 0, ← newList [], rawInt b], []⟩)) Q E s) : wpAny M A (Builtin.listReprAt b ⟨[.ref a], []⟩) Q E s := by
  intro Γ p hΓ
  have k2 := h2 Γ p hΓ
  unfold Builtin.listReprAt
  simp [slotArgs, Builtin.List.listItems, seqItems?, wp_load_of (h := hget), hd, stack]
  show wp M Γ (if (Γ.below.any _) = true then _ else _) _ _ p s
  split
  · simp [rule, retStr, ret]
    exact h1 _ _
  · exact k2
section
variable {prog : Program} {w : World} {A : Around} {E : Value → Shared → Prop} {s : Shared}
theorem fmt_list_repr {a : Addr} {o : Obj} {l : List Value} {n : Nat} {ts : List Str} {Q : Value → Shared → Prop} (ha : s.heap.get? a = some o) (hc : o.cls = .type "list") (hd : o.data = .seq l.toArray n) (hlen : ts.length = l.toArray.size)
    (hT : ∀ (i : Nat) (y : Value), l.toArray[i]? = some y → ∃ t, ts[i]? = some t ∧ ReprIs prog w y t) (hsz : (listText ts).length ≤ sizeLine)
    (h : ∀ (m : Str) (h' : Heap) (u tk : Tok), m.length ≤ (listText ts).length + 5 → (∀ b o, s.heap.get? b = some o → h'.get? b = some o) → Q (.str m u) { s with heap := h', toks := tk }) : wpAny (model prog w) A (call (.builtin "list.__repr__") [.ref a]) Q E s := by
  have hTy : s.TypeIs (.ref a) "list" := ⟨o, ha, hc⟩
  cases l with
  | nil => exact call_list_repr_empty hTy ha hd (h "[]" s.heap _ _ (Nat.le_trans (by decide +kernel : ("[]" : Str).length ≤ 5) (Nat.le_add_left _ _)) fun _ _ e => e)
  | cons x l =>
    refine wpAny_call (codeAny_call_builtin F.slot_list_repr.plain F.entry_list_repr (F.slot_list_repr.check _ _ _ _ _ _ _ _ hTy (F.args_list_repr_1 _) ?_))
    refine list_repr_any (b := 0) ha hd (fun u tk => ?_) ?_
    · exact h "[...]" s.heap u tk (Nat.le_trans (by decide +kernel : ("[...]" : Str).length ≤ 5) (Nat.le_add_left _ _)) fun _ _ e => e
    · refine wpAny_bind (m := newList []) (wpAny_newObj_type ?_)
      refine wpAny_pure ⟨F.quiet_list_repr_loop _, ?_⟩
      refine codeAny_list_repr_start (P := s.heap.objs.size) (Nat.ne_of_lt (Heap.lt_size ha)) hlen hT (Heap.get?_push_of_some _ ha) hd (Heap.get?_push_size _ rfl) (fun h' u tk hk => ?_) (by omega)
      exact h (listText ts) h' u tk (Nat.le_add_right _ _) fun b o e => hk b o (Nat.ne_of_lt (Heap.lt_size e)) (Heap.get?_push_of_some _ e)
theorem fmt_list {a : Addr} {o : Obj} {l : List Value} {n : Nat} {ts : List Str} {Q : Value → Shared → Prop} (hu : A.units + 2 < cLine) (ha : s.heap.get? a = some o) (hc : o.cls = .type "list") (hd : o.data = .seq l.toArray n) (hlen : ts.length = l.toArray.size)
    (hT : ∀ (i : Nat) (y : Value), l.toArray[i]? = some y → ∃ t, ts[i]? = some t ∧ ReprIs prog w y t) (hsz : (listText ts).length ≤ sizeLine)
    (h : ∀ (m : Str) (h' : Heap) (u tk : Tok), m.length ≤ (listText ts).length + 5 → (∀ b o, s.heap.get? b = some o → h'.get? b = some o) → Q (.str m u) { s with heap := h', toks := tk }) : wpAny (model prog w) A (formatField (.ref a) Str.empty) Q E s :=
  wpAny_formatField_slot (fun _ _ => nofun) hu ⟨o, ha, hc⟩ F.slot_list_format F.slot_list_str F.slot_list_repr.toG
    (fmt_list_repr (s := { s with toks := s.toks + 1 }) ha hc hd hlen hT hsz fun m h' u tk hm hk => ⟨m, u, rfl, h m h' u tk hm hk⟩)
end
end PySem

namespace L2
open PySem PySem.Spec PyProof.Rows
theorem text_le : ∀ (ts : List Str) (k : Nat) (acc : Str), (textFrom k acc ts).length ≤ acc.length + piled ts
  | [], k, acc => Nat.le_add_right _ _
  | t :: ts, k, acc => by
    have ih := text_le ts (k + 1) (acc ++ ((if k > 0 then ", " else "" : String) : Str) ++ t)
    have e : (((if k > 0 then ", " else "" : String)) : Str).length ≤ 2 := by split <;> decide +kernel
    rw [strLen_append, strLen_append] at ih
    rw [piled_cons]
    show (textFrom (k + 1) (acc ++ ((if k > 0 then ", " else "" : String) : Str) ++ t) ts).length ≤ _
    omega
theorem digit_len {i : Int} (h0 : 0 ≤ i) (h1 : i < 10) : (Str.ofString (toString i)).length = 1 := by
  have : i = 0 ∨ i = 1 ∨ i = 2 ∨ i = 3 ∨ i = 4 ∨ i = 5 ∨ i = 6 ∨ i = 7 ∨ i = 8 ∨ i = 9 := by omega
  rcases this with e | e | e | e | e | e | e | e | e | e <;> subst e <;> decide +kernel
section
variable {X : Cx}
/-- {xs}, xs a list of digits: some text -/
def tFmtL (K : PySem.W.Frag) (te : TE) : TE := fun σ H Q => te σ H fun x H1 => ∃ (a : Addr) (ns : List Int), x = .ref a ∧ SqL K H1 a (ns.map V.int) ∧ ns.length ≤ 100 ∧ (∀ n ∈ ns, 0 ≤ n ∧ n < 10) ∧ ∀ m : Str, m.length ≤ 1000 → Q (.str m) H1
theorem pe_fmtLu {e : Expr} {te : TE} {pos : Pos} (hu : X.A.units + 2 < cLine) (he : PE X e te) : PE X (.FormattedValue e (-1) none pos) (tFmtL X.K te) := by
  refine ⟨fun pins s σ H Q I h => ?_⟩
  refine wpAny_FormattedValue_plain (thn (he.run pins s σ H _ I h) fun v s1 hv => ?_)
  obtain ⟨x, H1, I1, r1, a, ns, rfl, hs, hl, hn, q⟩ := hv
  cases r1
  obtain ⟨its, rv, pl, _⟩ := I1.list hs
  obtain ⟨o, ho, hcl, n, hd⟩ := pl.isList
  have hlen := rv.length
  rw [List.length_map] at hlen
  have hpile : ∀ l : List Int, (∀ n ∈ l, 0 ≤ n ∧ n < 10) → piled (l.map fun i => Str.ofString (toString i)) = 3 * l.length := by
    intro l
    induction l with
    | nil => intro _; rfl
    | cons i l ih =>
      intro hl
      have hi := hl i List.mem_cons_self
      rw [List.map_cons, piled_cons, ih (fun n m => hl n (List.mem_cons_of_mem _ m)), digit_len hi.1 hi.2, List.length_cons]
      omega
  have hp := hpile ns hn
  have hz : (listText (ns.map fun i => Str.ofString (toString i))).length ≤ 3 * ns.length + 2 := by
    unfold listText
    have h1 := text_le (ns.map fun i => Str.ofString (toString i)) 0 "["
    have e1 : ((("[" : String) : Str)).length = 1 := rfl
    have e2 : ((("]" : String) : Str)).length = 1 := rfl
    rw [strLen_append, e2]
    rw [e1] at h1
    omega
  refine fmt_list (ts := ns.map fun i => Str.ofString (toString i)) (by omega) ho hcl hd (by rw [List.length_map, List.size_toArray]; exact hlen) (fun i y hy => ?_) (by rw [sizeLine_eq]; omega) fun m h' u tk hm hk => ⟨.str m, H1, I1.kept hk, ⟨u, rfl⟩, q m (by omega)⟩
  have hy' : its[i]? = some y := by simpa using hy
  have hlt : i < ns.length := by have := (List.getElem?_eq_some_iff.mp hy').1; omega
  obtain ⟨z, hz2, rz⟩ := rv.get (i := i) (x := .int ns[i]) (by rw [List.getElem?_map, List.getElem?_eq_getElem hlt]; rfl)
  rw [hy'] at hz2
  cases hz2
  obtain ⟨t, rfl⟩ := rz
  have hb := hn _ (List.getElem_mem hlt)
  refine ⟨_, by rw [List.getElem?_map, List.getElem?_eq_getElem hlt]; rfl, ReprIs.int t ?_⟩
  have : ns[i].natAbs < 10 := by omega
  exact Nat.lt_of_le_of_lt (Nat.log2_le_self _) (by omega)
theorem pe_fmtL {e : Expr} {te : TE} {pos : Pos} {k : Nat} (hr : Room k X.A) (he : PE X e te) : PE X (.FormattedValue e (-1) none pos) (tFmtL X.K te) := pe_fmtLu (by have := hr.units; omega) he
/-- C.m(e, ..), C the class at C (own), m a def of it -/
def tClsF (C : Addr) (sp : Sp) (E : XK) (ta : TE) (t : TA) : TE := fun σ H Q => ta σ H fun x H1 => x = .ref C ∧ t σ H1 fun vs H2 => sp vs H2 Q E
theorem pe_clsf {CX : CXT} {k : Nat} {C f : Addr} {fd : FuncData} {ps : List Str} {mc : Value} {sp : Sp} {E : XK} {o e : Expr} {es : List Expr} {m : Str} {pos apos : Pos} {ta : TE} {t : TA} {pl : Sem Bool} (he : PE X o ta) (r : ClX.CRead X.K C mc) (at_ : PySem.W.findCls X.K (.ref C) mc m = some (.val (.ref f)))
    (F : FnOk X.prog X.w X.K X.mg X.base CX k f fd ps sp) (hr : Room k X.A) (hk : PySem.W.keepIn X.K (.ref f) = true) (hb : Binds X.K fd ps []) (hx : Passes CX X E) (ha : PA X (e :: es) t)
    (hst : starEach (e :: es) X.env = (false, eval e X.env) :: starEach es X.env := by rfl) (hpl : (backTo pos (starEach es X.env)).any (·.1) = false := by rfl)
    (ht : eval (.Call (.Attribute o m apos) (e :: es) [] pos) X.env = (do
      let ov ← eval o X.env
      standAt apos.atName
      let (f, first) ← holding [ov] (getMethod ov m pl)
      callWith pos f first (backTo pos (starEach (e :: es) X.env)) (backToKw pos (keywordEach [] X.env))) := by rfl) :
    PE X (.Call (.Attribute o m apos) (e :: es) [] pos) (tClsF C sp E ta t) := by
  refine ⟨fun pins s σ H Q I h => ?_⟩
  refine PySem.W.methodCall_KW (pl := pl) (thn (he.run pins s σ H _ I h) fun u s1 ⟨x, H1, I1, rx, ex, q⟩ => ?_) ht
  subst ex
  obtain rfl : u = Value.ref C := rx
  refine PySem.W.method_cls I1.kIn r.ga (ClX.getcval_ok (v := .ref f) I1 r ⟨at_, rfl⟩ fun s2 I2 => ?_)
  refine PySem.W.callWith_K (h₀ := X.base) I2.ok.mod.kin hk (thn (ha.run pos pins s2 σ H1 _ I2 q) fun us s3 ⟨vs, H2, I3, rv, q2⟩ => ⟨I3.kIn, ?_⟩) hst hpl
  refine run_fn (dvs := []) F hr hb .nil hx I3 rv ?_
  rw [List.append_nil]
  exact q2
end
end L2

/-! several except clauses, with and without a name -/
namespace L2
open PySem PySem.Spec PyProof.Rows
/-- one clause: the class that it names, the slot of its name (if any), its suite's reading -/
structure Cl where
  c : Value
  i : Option Nat
  ts : Addr → Value → Option Addr → TS
def slotN (i : Option Nat) (v : Option V) (σ : St) : St := match i with
  | none => σ
  | some i => σ.set i v
def endsN (i : Option Nat) (D : Ends) : Ends := match i with
  | none => D
  | some i => { nx := fun σ H => D.nx (σ.set i none) H, rt := D.rt, bk := fun σ H => D.bk (σ.set i none) H, ct := fun σ H => D.ct (σ.set i none) H }
/-- what the clauses wish of an exception of the body -/
def wMix (K : PySem.W.Frag) (Wout : WX) (D : Ends) : List Cl → WX
  | [] => Wout
  | x :: r => fun cls d σ H => ∃ b, PySem.W.exmOne K cls x.c = some b ∧ (b = true → ∀ a, H a = none → x.ts a cls d (endsN x.i D) (slotN x.i (some (.ref a)) σ) H) ∧ (b = false → wMix K Wout D r cls d σ H)
inductive MixOk (X : Cx) : List ExceptHandler → List Cl → Prop
  | nil : MixOk X [] []
  | bare {x : Str} {c : Value} {ts : Addr → Value → Option Addr → TS} {b₀ : Stmt} {suite : List Stmt} {np pos' : Pos} {hds : List ExceptHandler} {l : List Cl} (hc : Names X x c)
      (hsu : ∀ (a : Addr) (oe : Obj) (cls : Value) (d : Option Addr) (pn : List (Addr × Obj)), Zc cls d oe → (∃ vs, oe.data = .fields vs) → PSs (X.suite a ((a, oe) :: pn)) (b₀ :: suite) (ts a cls d)) (r : MixOk X hds l) :
      MixOk X (.ExceptHandler (some (.Name x np)) none (b₀ :: suite) pos' :: hds) (⟨c, none, ts⟩ :: l)
  | as {x n : Str} {i : Nat} {c : Value} {ts : Addr → Value → Option Addr → TS} {b₀ : Stmt} {suite : List Stmt} {np pos' : Pos} {hds : List ExceptHandler} {l : List Cl} (hN : X.N.Nodup) (hi : X.N[i]? = some n) (hln : X.env.kindOf n = some .local) (hc : Names X x c)
      (hsu : ∀ (a : Addr) (oe : Obj) (cls : Value) (d : Option Addr) (pn : List (Addr × Obj)), Zc cls d oe → (∃ vs, oe.data = .fields vs) → PSs (X.suite a ((a, oe) :: pn)) (b₀ :: suite) (ts a cls d)) (r : MixOk X hds l) :
      MixOk X (.ExceptHandler (some (.Name x np)) (some n) (b₀ :: suite) pos' :: hds) (⟨c, some i, ts⟩ :: l)
section
variable {X : Cx} {body : List Stmt} {h₀ : ExceptHandler} {hds : List ExceptHandler} {l : List Cl} {pos : Pos} {tb : WX → TS} {Wout : WX}
theorem ps_try_mix (hs : X.stack = X.env :: X.outer) (hf : X.env.frame = some X.env.locals) (tk : Takes X Wout)
    (hb : ∀ (W : WX) (pn : List (Addr × Obj)) (xe : Value → Shared → Prop), Takes (X.tr pn xe) W → PassesOwn (model X.prog X.w) X.A X.env xe → PSs (X.tr pn xe) body (tb W))
    (hh : MixOk X (h₀ :: hds) l) : PS X (.Try body (h₀ :: hds) [] [] pos) (fun D σ H => tb (wMix X.K Wout D l) D σ H) := by
  refine ⟨fun pins s σ H D I h => ?_⟩
  have ok := I.ok
  have hfr : X.A.frames = some (X.env :: X.outer) := by rw [ok.frames, hs]
  refine wpAny_Try_except (wpAny_mono ((hb (wMix X.K Wout D l) (X.pn ++ pins) (fun e s₁ => wpAny (model X.prog X.w) X.A (noteFrame e X.env) (fun _ s₂ => wpAny (model X.prog X.w) X.A (setFlight e none) (fun _ s₃ => wpAny (model X.prog X.w) X.A (handleBy e X.env (h₀ :: hds)) (SP X pins D) X.xe s₃) X.xe s₂) X.xe s₁) (fun u s' xx => ?_) PassesOwn.looking).run [] s σ H D (I.toTry _) h) (fun f s1 hsp => ?_) (fun e s1 he => he))
  · obtain ⟨a, B, sI, pins', σ', H', cls, d, rfl, J', nb, up, sky, na, os, ag, w⟩ := xx
    have J : Inv X pins σ' H' sI := J'.ofTry ok
    have sky2 : Sky B (X.env :: X.outer) a (Zc cls d) X.env.locals s'.heap := by rw [← hs]; exact sky
    show wpAny (model X.prog X.w) X.A (noteFrame (.ref a) X.env) _ _ _
    refine Sky.land Zc.steady hfr hf sky2 fun h3 fl3 up3 => ?_
    have J3 : Inv X pins σ' H' { s' with heap := h3 } := J.landed nb fl3.1 (up.trans up3) os ag
    obtain ⟨oe3, vs3, he3, hz3, hd3⟩ := fl3.there
    have nfr : a ∉ frs (X.env :: X.outer) := fun hm => by
      obtain ⟨_, o', e', hnf⟩ := fl3.2.2.1.mem hm
      rw [he3] at e'; cases e'
      exact hnf _ hd3
    have nL : a ≠ X.env.locals := fun z => nfr (List.mem_filterMap.mpr ⟨X.env, List.mem_cons_self, by rw [hf, z]⟩)
    have nF : a ∉ X.fs := fun hm => by
      obtain ⟨e, he, q⟩ := List.mem_filterMap.mp hm
      exact nfr (List.mem_filterMap.mpr ⟨e, List.mem_cons_of_mem _ he, q⟩)
    have S3 := J3.suite he3 hd3 na nL nF
    have LT : PySem.W.Looks (model X.prog X.w) h3 (typeOf (.ref a)) cls := fun A Q E s k q => wpAny_typeOf_ref (k _ _ he3) (by rw [hz3.1]; exact q)
    have test : ∀ {x : Str} {c : Value} {np : Pos} {Q : Value → Shared → Prop} {E : Value → Shared → Prop}, Names X x c → Q c { s' with heap := h3 } → wpAny (model X.prog X.w) (X.A.mark (some (.ref a))) (eval (.Name x np) X.env) Q E { s' with heap := h3 } := fun {x c np Q E} hc q => by
      obtain ⟨hg, hdbg, hm | ⟨hm, hv, hnn⟩⟩ := hc
      · exact ld_glob (X := X.suite a ((a, oe3) :: (X.pn ++ pins))) S3 hg hm q hdbg
      · exact ld_blt (X := X.suite a ((a, oe3) :: (X.pn ++ pins))) S3 hg hm hv q hnn hdbg
    have go : ∀ {hds' : List ExceptHandler} {l' : List Cl}, MixOk X hds' l' → wMix X.K Wout D l' cls d σ' H' → wpAny (model X.prog X.w) X.A (handleBy (.ref a) X.env hds') (SP X pins D) X.xe { s' with heap := h3 } := by
      intro hds' l' hk
      induction hk with
      | nil =>
        intro w
        refine wpAny_handleBy_nil ?_
        obtain ⟨k1, k2, k3, oe, vs, T, oT, ts', he, hz, hd, h1, hr⟩ := id fl3
        unfold PySem.passOn
        refine wpAny_bind (wpAny_field he hd h1 ?_)
        rw [if_neg (show ¬ ((Value.ref T == Value.none) = true) from by simp)]
        have fin : wpAny (model X.prog X.w) X.A (setFlight (.ref a) X.env.frame) (fun _ s4 => wpAny (model X.prog X.w) X.A (throw (.ref a) : Sem Flow) (SP X pins D) X.xe s4) X.xe { s' with heap := h3 } := by
          rw [hf]
          refine HandSPX.setFlight_upZ fl3 fun h4 hh4 up4 => wpAny_throw (tk _ _ ?_)
          exact ⟨a, B, sI, pins, σ', H', cls, d, rfl, J, nb, (up.trans up3).trans up4, .inr (.inr (by rw [hs]; exact hh4)), na, os, ag, w⟩
        first
          | exact wpAny_bind (wpAny_pure (wpAny_bind fin))
          | exact wpAny_bind fin
      | @bare x c ts b₀ suite np pos' hds2 l2 hc hsu r ih =>
        intro w
        obtain ⟨b, hb1, hyes, hno⟩ := w
        refine wpAny_handleBy_cons (codeAny_handlers_test ?_) (by intro q; cases q)
        refine test hc ((PySem.W.exm_one (M := model X.prog X.w) (J3.kIn) LT hb1).here ?_)
        cases b with
        | true =>
          refine codeAny_handlers_suite (HandSPX.lands_againZ fl3 fun h4 fl4 up4 => ?_)
          have J4 : Inv X pins σ' H' { s' with heap := h4 } := J.landed nb fl4.1 ((up.trans up3).trans up4) os ag
          obtain ⟨oe4, vs4, he4, hz4, hd4⟩ := fl4.there
          refine wpAny_mono ((hsu a oe4 cls d (X.pn ++ pins) hz4 ⟨_, hd4⟩).run [] _ _ H' _ (J4.suite he4 hd4 na nL nF) (hyes rfl a na)) (fun f s6 hsp => ?_) (fun _ _ z => False.elim z)
          cases f with
          | next => obtain ⟨σ6, H6, S6, q6⟩ := hsp; exact ⟨_, _, S6.unsuite ok, q6⟩
          | brk => obtain ⟨σ6, H6, S6, q6⟩ := hsp; exact ⟨_, _, S6.unsuite ok, q6⟩
          | cont => obtain ⟨σ6, H6, S6, q6⟩ := hsp; exact ⟨_, _, S6.unsuite ok, q6⟩
          | ret u => obtain ⟨v6, σ6, H6, S6, r6, q6⟩ := hsp; exact ⟨_, _, _, S6.unsuite ok, r6, q6⟩
        | false =>
          show wpAny _ X.A (handleBy (.ref a) X.env hds2) _ _ _
          exact ih (hno rfl)
      | @as x n i c ts b₀ suite np pos' hds2 l2 hN hi hln hc hsu r ih =>
        intro w
        obtain ⟨b, hb1, hyes, hno⟩ := w
        have hloc : Loc X.env.scope n := .inl hln
        refine wpAny_handleBy_cons (codeAny_handlers_test ?_) (by intro q; cases q)
        refine test hc ((PySem.W.exm_one (M := model X.prog X.w) (J3.kIn) LT hb1).here ?_)
        cases b with
        | true =>
          refine codeAny_handlers_suite_as (HandSPX.lands_againZ fl3 fun h4 fl4 up4 => ?_)
          have J4 : Inv X pins σ' H' { s' with heap := h4 } := J.landed nb fl4.1 ((up.trans up3).trans up4) os ag
          obtain ⟨oe4, vs4, he4, hz4, hd4⟩ := fl4.there
          have S4 := J4.suite he4 hd4 na nL nF
          refine store_ok (X := X.suite a ((a, oe4) :: (X.pn ++ pins))) (v := .ref a) S4 hN hi hloc rfl (fun s5 S5 => ?_) (.inr hln)
          refine wpAny_mono ((hsu a oe4 cls d (X.pn ++ pins) hz4 ⟨_, hd4⟩).run [] s5 _ H' _ S5 (hyes rfl a na)) (fun f s6 hsp => ?_) (fun _ _ z => False.elim z)
          have end_ : ∀ {σ6 : St} {H6 : Hp} {Q : Shared → Prop}, Inv (X.suite a ((a, oe4) :: (X.pn ++ pins))) [] σ6 H6 s6 → (∀ s7, Inv X pins (σ6.set i none) H6 s7 → Q s7) → wpAny (model X.prog X.w) X.A (do bindName X.env n .none; unbindBehindTheSuite X.env n pos') (fun _ s7 => Q s7) X.xe s6 := fun {σ6 H6 Q} S6 hq => gone_ok (S6.unsuite ok) hN hi hln hq
          cases f with
          | next => obtain ⟨σ6, H6, S6, q6⟩ := hsp; exact end_ S6 fun s7 J7 => ⟨_, _, J7, q6⟩
          | brk => obtain ⟨σ6, H6, S6, q6⟩ := hsp; exact end_ S6 fun s7 J7 => ⟨_, _, J7, q6⟩
          | cont => obtain ⟨σ6, H6, S6, q6⟩ := hsp; exact end_ S6 fun s7 J7 => ⟨_, _, J7, q6⟩
          | ret u => obtain ⟨v6, σ6, H6, S6, r6, q6⟩ := hsp; exact end_ S6 fun s7 J7 => ⟨_, _, _, J7, r6, q6⟩
        | false =>
          show wpAny _ X.A (handleBy (.ref a) X.env hds2) _ _ _
          exact ih (hno rfl)
    exact go hh w
  · cases f with
    | next => obtain ⟨σ', H', J', q⟩ := hsp; exact wpAny_execs_nil ⟨σ', H', J'.ofTry ok, q⟩
    | brk => obtain ⟨σ', H', J', q⟩ := hsp; exact ⟨σ', H', J'.ofTry ok, q⟩
    | cont => obtain ⟨σ', H', J', q⟩ := hsp; exact ⟨σ', H', J'.ofTry ok, q⟩
    | ret u => obtain ⟨v, σ', H', J', r, q⟩ := hsp; exact ⟨v, σ', H', J'.ofTry ok, r, q⟩
end
end L2

namespace K
open PySem PySem.Spec PyProof.Rows L2
/-- whether an error of the class at S is what «except C» names -/
theorem exm_pair {K : PySem.W.Frag} {S C : Addr} {b : Bool} (h1 : PySem.W.subIn K (.ref C) (.type "BaseException") = some true) (h2 : PySem.W.isClsIn K C = true) (h3 : PySem.W.typeIn K (.ref C) = some (.type "type")) (h4 : PySem.W.subIn K (.ref S) (.ref C) = some b) : PySem.W.exmOne K (.ref S) (.ref C) = some b := by
  have e1 : (PySem.W.subIn K (.ref C) (.type "BaseException") == some true) = true := by rw [h1] <;> rfl
  have e2 : ((PySem.W.clsIn K C).isSome && PySem.W.typeIn K (.ref C) == some (.type "type")) = true := by
    have h2' : (PySem.W.clsIn K C).isSome = true := h2
    rw [h2', h3] <;> rfl
  show (if (PySem.W.subIn K (.ref C) (.type "BaseException") == some true) = true then (if ((PySem.W.clsIn K C).isSome && PySem.W.typeIn K (.ref C) == some (.type "type")) = true then PySem.W.subIn K (.ref S) (.ref C) else none) else none) = some b
  rw [if_pos e1, if_pos e2]
  exact h4
/-- what the top has written of SlipError and its __init__ -/
structure SlipT (K : PySem.W.Frag) (mg : Str → Option Value) (CS fS : Addr) : Prop where
  g : mg "SlipError" = some (.ref CS)
  r : ClX.CRead K CS (.type "type")
  at_ : PySem.W.findCls K (.ref CS) (.type "type") "__init__" = some (.val (.ref fS))
  kp : PySem.W.keepIn K (.ref fS) = true
  vV : PySem.W.findCls K (.type "ValueError") (.type "type") "__init__" = some (.val (.builtin "ValueError.__init__"))
  mV : mg "ValueError" = none
/-- .. of a refusal's class x at C, its __init__ at fI -/
structure ExcT (K : PySem.W.Frag) (mg : Str → Option Value) (x : Str) (C fI : Addr) : Prop where
  g : mg x = some (.ref C)
  oex : OexC K C
  xf : XfC K C
  iC : PySem.W.findIn K (.ref C) "__init__" = some (some (.ref fI))
  tI : PySem.W.typeIn K (.ref fI) = some (.type "function")
  word : PySem.W.findIn K (.ref C) "word" = some none
def spSlip (K : PySem.W.Frag) : Sp := fun vs H Q _ => ∃ (a C : Addr) (w y : Str), vs = [.ref a, .str w, .str y] ∧ OexC K C ∧ PySem.W.findIn K (.ref C) "word" = some none ∧ H a = some (exo a C none) ∧
  ∀ dx, H dx = none → dx ≠ a → Q .non (upd (upd H dx (exd dx [("word", .str w)])) a (exo a C (some dx)))
/-- C(v): the exception at a gets its fields, newest first, in a new dict; all else stands -/
def spIn1 (K : PySem.W.Frag) (f wd : Str) (ask : Hp → V → Prop) (got : Hp → Hp → V → V → Prop) : Sp := fun vs H Q _ => ∃ (a C : Addr) (v : V), vs = [.ref a, v] ∧ ask H v ∧ OexC K C ∧ PySem.W.findIn K (.ref C) "word" = some none ∧ PySem.W.findIn K (.ref C) f = some none ∧ H a = some (exo a C none) ∧
  ∀ (dx : Addr) (v' : V) (H' : Hp), H dx = none → dx ≠ a → (∀ b o, H b = some o → b ≠ a → H' b = some o) → H' a = some (exo a C (some dx)) → H' dx = some (exd dx [(f, v'), ("word", .str wd)]) → got H H' v v' → Q .non H'
def askInt : Hp → V → Prop := fun _ v => ∃ i : Int, v = .int i ∧ i.natAbs.log2 < 1920
def gotSame : Hp → Hp → V → V → Prop := fun _ _ v v' => v' = v
/-- a list of digits -/
def askLot (K : PySem.W.Frag) : Hp → V → Prop := fun H v => ∃ (l : Addr) (ns : List Int), v = .ref l ∧ H l = some (.lst (ns.map V.int)) ∧ ns.length ≤ 100 ∧ ∀ n ∈ ns, 0 ≤ n ∧ n < 10
def gotLot : Hp → Hp → V → V → Prop := fun H0 H v v' => ∃ (l l' : Addr) (xs : List V), v = .ref l ∧ v' = .ref l' ∧ H l = some (.lst xs) ∧ H l' = some (.lst xs) ∧ l ≠ l' ∧ H0 l' = none
theorem ext_ne_lst {H : Hp} {a b : Addr} {C : Addr} {d : Option Addr} {xs : List V} (h : H a = some (exo a C d)) (h' : H b = some (.lst xs)) : b ≠ a := fun e => by
  subst e
  rw [h] at h'
  cases h'
section
variable {P : Program} {w : World} {K : PySem.W.Frag} {mg : Str → Option Value} {base : Heap}
theorem join2_le {c m : Str} (hc : (Str.empty ++ c).length ≤ 1000) (hm : m.length ≤ 2000) : ((Str.empty ++ c) ++ m).length ≤ sizeLine := by
  rw [strLen_append, sizeLine_eq]
  omega
theorem join3_le {c m e : Str} (hc : (Str.empty ++ c).length ≤ 1000) (hm : m.length ≤ 2000) (he : e.length ≤ 1000) : (((Str.empty ++ c) ++ m) ++ e).length ≤ sizeLine := by
  rw [strLen_append, strLen_append, sizeLine_eq]
  omega
/-- what a raise of such a refusal leaves -/
theorem raised_same {H H2 : Hp} {a d : Addr} {fs : List (Str × V)} (ha : H a = none) (k : ∀ b o, H b = some o → b ≠ a → H2 b = some o) (hd : H d = none) : Same H (upd (del H2 a) d (.xd fs)) := fun b o e => by
  have hb : b ≠ a := ne_of_none e ha
  rw [upd_ne (ne_of_none e hd), del_ne hb]
  exact k b o e hb
end
end K

namespace K
open PySem PySem.Spec PyProof.Rows L2
open Sw (T3 Dist at? relax roundOf rounds IsNext Cand IsFar nbr candL WayTo lotOf)
/-- a def that may raise, as it can be called -/
structure CalX (P : Program) (w : World) (K : PySem.W.Frag) (mg : Str → Option Value) (base : Heap) (k : Nat) (x : Str) (f : Addr) (fd : FuncData) (ps : List Str) (sp : Sp) : Prop where
  ok : FnOk P w K mg base (L2.CX P w) k f fd ps sp
  g : mg x = some (.ref f)
  kp : PySem.W.keepIn K (.ref f) = true
  b : Binds K fd ps []
/-- a refusal's class with the promise of its __init__ -/
structure ExcC (P : Program) (w : World) (K : PySem.W.Frag) (mg : Str → Option Value) (base : Heap) (k : Nat) (x : Str) (C fI : Addr) (fd : FuncData) (ps : List Str) (sp : Sp) : Prop where
  t : ExcT K mg x C fI
  ok : FnOk P w K mg base CX0 k fI fd ps sp
  b : Binds K fd ps []
/-- NoHouse(h), as it is in the air: its dict, new; all else stands -/
def HouseX (CH : Addr) (h : Int) (H : Hp) (E : XK) : Prop := ∀ (d : Addr) (H' : Hp), H d = none → Same H H' → H' d = some (.xd [("house", .int h), ("word", .str "nohouse")]) → E (.ref CH) (some d) H'
def LotX (CW : Addr) (wd : Str) (lot : List Nat) (H : Hp) (E : XK) : Prop := ∀ (d l : Addr) (H' : Hp), H d = none → H l = none → Same H H' → H' d = some (.xd [("lot", .ref l), ("word", .str wd)]) → H' l = some (.lst (lot.map fun h => V.int (h : Nat))) → E (.ref CW) (some d) H'
def spCheckX (CH : Addr) : Sp := fun vs H Q E => ∃ (n : Nat) (h : Int), vs = [.int (n : Nat), .int h] ∧ h.natAbs.log2 < 1920 ∧ (0 ≤ h ∧ h < n → Q .non H) ∧ (¬ (0 ≤ h ∧ h < n) → HouseX CH h H E)
def spReach : Sp := fun vs H Q _ => ∃ (n g : Nat) (t : Addr) (ts : List T3), vs = [.int (n : Nat), .ref t, .int (g : Nat)] ∧ g < n ∧ n ≤ 1000 ∧ TiesAt H t ts ∧ Fits n ts ∧ ∀ p H', H p = none → Same H H' → H' p = some (.lst ((lotOf n (farD n ts g)).map fun h => V.int (h : Nat))) → Q (.ref p) H'
/-- (price, way) -/
def PriceWay (H : Hp) (p : Addr) (c : Nat) (way : List Nat) : Prop := ∃ w : Addr, H p = some (.tup [.int (c : Nat), .ref w]) ∧ H w = some (.tup (way.map fun h => V.int (h : Nat)))
def spLeastX (CH CW : Addr) : Sp := fun vs H Q E => ∃ (n : Nat) (s g : Int) (t : Addr) (ts : List T3), vs = [.int (n : Nat), .ref t, .int s, .int g] ∧ n ≤ 9 ∧ s.natAbs.log2 < 1920 ∧ g.natAbs.log2 < 1920 ∧ TiesAt H t ts ∧ ts.length ≤ 400 ∧ Fits n ts ∧ (∀ e ∈ ts, 1 ≤ e.2.2 ∧ e.2.2 ≤ 9) ∧
  (¬ (0 ≤ s ∧ s < n) → HouseX CH s H E) ∧ (0 ≤ s ∧ s < n → ¬ (0 ≤ g ∧ g < n) → HouseX CH g H E) ∧
  (∀ s' g' : Nat, s = s' → g = g' → s' < n → g' < n → at? (farD n ts g') s' = none → LotX CW "noway" (lotOf n (farD n ts s')) H E) ∧
  (∀ (s' g' c : Nat) (way : List Nat), s = s' → g = g' → s' < n → g' < n → at? (farD n ts g') s' = some c → WayTo (both ts) (farD n ts g') g' s' way → way.length ≤ 100 → ∀ p H', H p = none → Same H H' → PriceWay H' p c way → Q (.ref p) H')
end K

/-! all ways without a house twice -/
namespace K
open Sw (T3 Dist at? Way IsFar IsNext Cand WayTo Le)
/-- a way that is under way: the houses ahead, the last one, the cost -/
abbrev Ent := List Nat × Nat × Nat
def joinE (g : Nat) (w : Ent) (a b m : Nat) : List Ent := if a = w.2.1 ∧ b ∉ w.1 ++ [w.2.1] ∧ w.2.1 ≠ g then [(w.1 ++ [w.2.1], b, w.2.2 + m)] else []
def ext1 (g : Nat) (w : Ent) (e : T3) : List Ent := joinE g w e.1 e.2.1 e.2.2 ++ joinE g w e.2.1 e.1 e.2.2
def extL (ts : List T3) (g : Nat) (w : Ent) : List Ent := ts.flatMap (ext1 g w)
def stepF (ts : List T3) (g : Nat) (fs : List Ent) : List Ent := fs.flatMap (extL ts g)
def foundK (ts : List T3) (s g : Nat) : Nat → List Ent
  | 0 => [([], s, 0)]
  | k + 1 => stepF ts g (foundK ts s g k)
def endE (g : Nat) (w : Ent) : List (Nat × List Nat) := if w.2.1 = g then [(w.2.2, w.1 ++ [w.2.1])] else []
def endsF (g : Nat) (fs : List Ent) : List (Nat × List Nat) := fs.flatMap (endE g)
def endsK (ts : List T3) (s g : Nat) : Nat → List (Nat × List Nat)
  | 0 => []
  | k + 1 => endsK ts s g k ++ endsF g (foundK ts s g k)
theorem joinE_len (g : Nat) (w : Ent) (a b m : Nat) : (joinE g w a b m).length ≤ 1 := by
  unfold joinE
  split <;> simp
theorem ext1_len {g : Nat} {w : Ent} {e : T3} (h : e.1 ≠ e.2.1) : (ext1 g w e).length ≤ 1 := by
  unfold ext1 joinE
  rw [List.length_append]
  by_cases h1 : (e.1 = w.2.1 ∧ e.2.1 ∉ w.1 ++ [w.2.1] ∧ w.2.1 ≠ g)
  · rw [if_pos h1, if_neg (fun h2 => h (h1.1.trans h2.1.symm))]
    simp
  · rw [if_neg h1]
    split <;> simp
theorem flatMap_len {α β : Type} {f : α → List β} {m : Nat} : ∀ {l : List α}, (∀ x ∈ l, (f x).length ≤ m) → (l.flatMap f).length ≤ l.length * m
  | [], _ => by simp
  | x :: l, h => by
    have h1 := h x List.mem_cons_self
    have h2 := flatMap_len (f := f) (l := l) fun y hy => h y (List.mem_cons_of_mem _ hy)
    rw [List.flatMap_cons, List.length_append, List.length_cons, Nat.succ_mul]
    omega
theorem extL_len {ts : List T3} {g : Nat} {w : Ent} (h : ∀ e ∈ ts, e.1 ≠ e.2.1) : (extL ts g w).length ≤ ts.length := by
  have := flatMap_len (f := ext1 g w) (m := 1) (l := ts) fun e m => ext1_len (h e m)
  unfold extL
  omega
theorem stepF_len {ts : List T3} {g : Nat} {fs : List Ent} (h : ∀ e ∈ ts, e.1 ≠ e.2.1) (hl : ts.length ≤ 14) : (stepF ts g fs).length ≤ fs.length * 14 :=
  flatMap_len fun w _ => Nat.le_trans (extL_len h) hl
theorem foundK_len {ts : List T3} {s g : Nat} (h : ∀ e ∈ ts, e.1 ≠ e.2.1) (hl : ts.length ≤ 14) : ∀ k, (foundK ts s g k).length ≤ 14 ^ k
  | 0 => by simp [foundK]
  | k + 1 => by
    have h1 := foundK_len (s := s) (g := g) h hl k
    have h2 := stepF_len (g := g) (fs := foundK ts s g k) h hl
    rw [Nat.pow_succ]
    show (stepF ts g (foundK ts s g k)).length ≤ _
    exact Nat.le_trans h2 (Nat.mul_le_mul_right _ h1)
theorem endsF_len (g : Nat) (fs : List Ent) : (endsF g fs).length ≤ fs.length := by
  have := flatMap_len (f := endE g) (m := 1) (l := fs) fun w _ => by unfold endE; split <;> simp
  unfold endsF
  omega
theorem joinE_mem {g : Nat} {w w' : Ent} {a b m : Nat} (h : w' ∈ joinE g w a b m) : a = w.2.1 ∧ w' = (w.1 ++ [w.2.1], b, w.2.2 + m) := by
  unfold joinE at h
  split at h
  · next c => exact ⟨c.1, by simpa using h⟩
  · cases h
/-- what is found leads there -/
theorem found_sound {ts : List T3} {s g : Nat} : ∀ (k : Nat) (w : Ent), w ∈ foundK ts s g k → ∀ j c, Way (both ts) g w.2.1 j c → ∃ j', Way (both ts) g s j' (w.2.2 + c)
  | 0, w, h, j, c, q => by
    have : w = ([], s, 0) := by simpa [foundK] using h
    subst this
    exact ⟨j, by rw [Nat.zero_add]; exact q⟩
  | k + 1, w', h, j, c, q => by
    obtain ⟨w, hw, hx⟩ := List.mem_flatMap.mp (show w' ∈ (foundK ts s g k).flatMap (extL ts g) from h)
    obtain ⟨e, he, hy⟩ := List.mem_flatMap.mp (show w' ∈ ts.flatMap (ext1 g w) from hx)
    have go : ∀ {a b m : Nat}, (a, b, m) ∈ both ts → w' ∈ joinE g w a b m → ∃ j', Way (both ts) g s j' (w'.2.2 + c) := fun {a b m} hm hj => by
      obtain ⟨e1, e2⟩ := joinE_mem hj
      subst e2
      have q2 : Way (both ts) g w.2.1 (j + 1) (m + c) := by
        rw [← e1]
        exact .cons hm q
      obtain ⟨j', q3⟩ := found_sound k w hw _ _ q2
      exact ⟨j', by show Way _ _ _ _ (w.2.2 + m + c); rw [Nat.add_assoc]; exact q3⟩
    rcases List.mem_append.mp hy with z | z
    · exact go ((both_mem ts _).mpr (.inl he)) z
    · exact go ((both_mem ts _).mpr (.inr he)) z
theorem endsK_mem {ts : List T3} {s g : Nat} {x : Nat × List Nat} : ∀ {n : Nat}, x ∈ endsK ts s g n ↔ ∃ k, k < n ∧ x ∈ endsF g (foundK ts s g k)
  | 0 => by simp [endsK]
  | n + 1 => by
    show x ∈ endsK ts s g n ++ endsF g (foundK ts s g n) ↔ _
    rw [List.mem_append, endsK_mem (n := n)]
    constructor
    · rintro (⟨k, hk, h⟩ | h)
      · exact ⟨k, by omega, h⟩
      · exact ⟨n, by omega, h⟩
    · rintro ⟨k, hk, h⟩
      by_cases e : k = n
      · subst e; exact .inr h
      · exact .inl ⟨k, by omega, h⟩
theorem ends_sound {ts : List T3} {s g n c : Nat} {w : List Nat} (h : (c, w) ∈ endsK ts s g n) : ∃ j, Way (both ts) g s j c := by
  obtain ⟨k, _, h⟩ := endsK_mem.mp h
  obtain ⟨x, hx, hy⟩ := List.mem_flatMap.mp (show (c, w) ∈ (foundK ts s g k).flatMap (endE g) from h)
  unfold endE at hy
  split at hy
  · next e =>
    have hy : (c, w) = (x.2.2, x.1 ++ [x.2.1]) := by simpa using hy
    have q := found_sound k x hx 0 0 (by rw [e]; exact .nil)
    obtain ⟨j, q⟩ := q
    have e2 : c = x.2.2 := congrArg Prod.fst hy
    exact ⟨j, by rw [e2]; exact q⟩
  · cases hy
/-- the told way is found -/
theorem way_found {ts : List T3} {s g n : Nat} {d : Dist} (f : IsFar (both ts) n g d) (hP : ∀ a b c, (a, b, c) ∈ both ts → 1 ≤ c) : ∀ {x : Nat} {l : List Nat}, WayTo (both ts) d g x l → ∀ (k : Nat) (pre : List Nat) (c dx : Nat), (pre, x, c) ∈ foundK ts s g k → at? d x = some dx → (∀ y ∈ pre, ∃ m, at? d y = some m ∧ dx < m) → (c + dx, pre ++ l) ∈ endsF g (foundK ts s g (k + (l.length - 1))) := by
  intro x l hw
  induction hw with
  | here =>
    intro k pre c dx hm hx _
    rw [Sw.far_goal f] at hx
    cases hx
    refine List.mem_flatMap.mpr ⟨_, hm, ?_⟩
    unfold endE
    rw [if_pos rfl]
    simp
  | @step h u l hn hl ih =>
    intro k pre c dx hm hx hpre
    obtain ⟨p, y, he, hy, hz⟩ := hn.2.2.1
    rw [hx] at hz
    cases hz
    have hp := hP _ _ _ he
    have hlen : 1 ≤ l.length := by cases hl <;> simp
    have hnot : u ∉ pre ++ [h] := fun z => by
      rcases List.mem_append.mp z with z | z
      · obtain ⟨m, e1, e2⟩ := hpre u z
        rw [hy] at e1
        cases e1
        omega
      · have : u = h := by simpa using z
        subst this
        rw [hx] at hy
        injection hy with hy
        omega
    have hin : (pre ++ [h], u, c + p) ∈ foundK ts s g (k + 1) := by
      refine List.mem_flatMap.mpr ⟨_, hm, List.mem_flatMap.mpr ?_⟩
      rcases (both_mem ts _).mp he with z | z
      · refine ⟨_, z, List.mem_append_left _ ?_⟩
        unfold joinE
        rw [if_pos ⟨rfl, hnot, hn.1⟩]
        exact List.mem_singleton.mpr rfl
      · refine ⟨_, z, List.mem_append_right _ ?_⟩
        unfold joinE
        rw [if_pos ⟨rfl, hnot, hn.1⟩]
        exact List.mem_singleton.mpr rfl
    have := ih (k + 1) (pre ++ [h]) (c + p) y hin hy (fun z hz => by
      rcases List.mem_append.mp hz with q | q
      · obtain ⟨m, e1, e2⟩ := hpre z q
        exact ⟨m, e1, by omega⟩
      · have : z = h := by simpa using q
        subst this
        exact ⟨y + p, hx, by omega⟩)
    rw [List.append_assoc] at this
    have e1 : c + p + y = c + (y + p) := by omega
    have e2 : k + 1 + (l.length - 1) = k + ((h :: l).length - 1) := by rw [List.length_cons]; omega
    rw [e1, e2] at this
    exact this
theorem wayto_simple {E : List T3} {n g : Nat} {d : Dist} (f : IsFar E n g d) (hP : ∀ a b c, (a, b, c) ∈ E → 1 ≤ c) : ∀ {x : Nat} {l : List Nat}, WayTo E d g x l → ∀ dx, at? d x = some dx → l.Nodup ∧ ∀ y ∈ l, ∃ m, at? d y = some m ∧ m ≤ dx := by
  intro x l hw
  induction hw with
  | here =>
    intro dx hx
    refine ⟨by simp, fun y hy => ?_⟩
    have : y = g := by simpa using hy
    subst this
    exact ⟨dx, hx, Nat.le_refl _⟩
  | @step h u l hn hl ih =>
    intro dx hx
    obtain ⟨p, y, he, hy, hz⟩ := hn.2.2.1
    rw [hx] at hz
    cases hz
    have hp := hP _ _ _ he
    obtain ⟨i1, i2⟩ := ih y hy
    refine ⟨List.nodup_cons.mpr ⟨fun z => ?_, i1⟩, fun z hz => ?_⟩
    · obtain ⟨m, e1, e2⟩ := i2 h z
      rw [hx] at e1
      cases e1
      omega
    · rcases List.mem_cons.mp hz with q | q
      · subst q; exact ⟨_, hx, Nat.le_refl _⟩
      · obtain ⟨m, e1, e2⟩ := i2 z q
        exact ⟨m, e1, by omega⟩
theorem at_lt {d : Dist} {v c : Nat} (h : at? d v = some c) : v < d.length := by
  unfold at? at h
  by_cases q : v < d.length
  · exact q
  · rw [List.getElem?_eq_none (by omega)] at h
    cases h
theorem least_ex {p : Nat → Prop} : ∀ u, p u → ∃ v, p v ∧ ∀ x, p x → v ≤ x := by
  intro u
  induction u using Nat.strongRecOn with
  | ind u ih =>
    intro hu
    by_cases h : ∃ x, p x ∧ x < u
    · obtain ⟨x, hx, hl⟩ := h
      exact ih x hl hx
    · exact ⟨u, hu, fun x hx => by
        by_cases q : u ≤ x
        · exact q
        · exact absurd ⟨x, hx, by omega⟩ h⟩
theorem wayto_ex {E : List T3} {n g : Nat} {d : Dist} (f : IsFar E n g d) (hP : ∀ a b c, (a, b, c) ∈ E → 1 ≤ c) : ∀ (c h : Nat), at? d h = some c → ∃ l, WayTo E d g h l := by
  intro c
  induction c using Nat.strongRecOn with
  | ind c ih =>
    intro h hc
    by_cases hg : h = g
    · subst hg; exact ⟨_, .here⟩
    · obtain ⟨u0, hu0⟩ := Sw.cand_ex f hg hc
      obtain ⟨u, hu, hmin⟩ := least_ex (p := Cand E d h) u0 hu0
      obtain ⟨p, y, he, hy, hz⟩ := id hu
      rw [hc] at hz
      cases hz
      have hp := hP _ _ _ he
      obtain ⟨l, hl⟩ := ih y (by omega) u hy
      exact ⟨_, .step ⟨hg, by rw [hc]; simp, hu, hmin⟩ hl⟩
/-- what all ways tell -/
theorem ends_some {ts : List T3} {s g n c : Nat} {d : Dist} (f : IsFar (both ts) n g d) (hP : ∀ a b c, (a, b, c) ∈ both ts → 1 ≤ c) (hc : at? d s = some c) : (∀ l, WayTo (both ts) d g s l → (c, l) ∈ endsK ts s g n) ∧ (∃ l, WayTo (both ts) d g s l) ∧ ∀ x ∈ endsK ts s g n, c ≤ x.1 := by
  refine ⟨fun l hl => ?_, wayto_ex f hP c s hc, fun x hx => ?_⟩
  · have h1 := way_found (s := s) f hP hl 0 [] 0 c (by simp [foundK]) hc (fun y hy => by cases hy)
    obtain ⟨nd, hlt⟩ := wayto_simple f hP hl c hc
    have hle := Sw.nodup_le n l nd fun y hy => by
      obtain ⟨m, e, _⟩ := hlt y hy
      have := at_lt e
      rw [f.len] at this
      exact this
    have h1l : 1 ≤ l.length := by cases hl <;> simp
    refine endsK_mem.mpr ⟨l.length - 1, by omega, ?_⟩
    simpa using h1
  · obtain ⟨c', w⟩ := x
    obtain ⟨j, q⟩ := ends_sound hx
    obtain ⟨z, ez, lz⟩ := f.least _ _ _ q _ rfl
    rw [hc] at ez
    cases ez
    exact lz
theorem ends_none {ts : List T3} {s g n : Nat} {d : Dist} (f : IsFar (both ts) n g d) (hc : at? d s = none) : endsK ts s g n = [] := by
  cases e : endsK ts s g n with
  | nil => rfl
  | cons x r =>
    obtain ⟨c, w⟩ := x
    obtain ⟨j, q⟩ := ends_sound (ts := ts) (s := s) (g := g) (n := n) (c := c) (w := w) (by rw [e]; exact List.mem_cons_self)
    obtain ⟨z, ez, lz⟩ := f.least _ _ _ q _ rfl
    rw [hc] at ez
    cases ez
/-! houses named anew -/
def ren (nm : Nat → Nat) (e : T3) : T3 := (nm e.1, nm e.2.1, e.2.2)
theorem both_ren {nm : Nat → Nat} {ts : List T3} {e : T3} : e ∈ both (ts.map (ren nm)) ↔ ∃ x ∈ both ts, e = ren nm x := by
  rw [both_mem]
  constructor
  · rintro (h | h)
    · obtain ⟨x, hx, q⟩ := List.mem_map.mp h
      exact ⟨x, (both_mem ts _).mpr (.inl hx), q.symm⟩
    · obtain ⟨x, hx, q⟩ := List.mem_map.mp h
      refine ⟨(x.2.1, x.1, x.2.2), (both_mem ts _).mpr (.inr hx), ?_⟩
      obtain ⟨a, b, c⟩ := e
      unfold ren at q ⊢
      simp only [Prod.mk.injEq] at q ⊢
      exact ⟨q.2.1.symm, q.1.symm, q.2.2.symm⟩
  · rintro ⟨x, hx, rfl⟩
    rcases (both_mem ts _).mp hx with z | z
    · exact .inl (List.mem_map.mpr ⟨x, z, rfl⟩)
    · exact .inr (List.mem_map.mpr ⟨_, z, rfl⟩)
theorem far_ren {nm : Nat → Nat} {ts : List T3} {n g s : Nat} {d d' : Dist} (hinj : ∀ a b, a < n → b < n → nm a = nm b → a = b) (hF : Fits n ts) (hg : g < n) (hs : s < n) (f : IsFar (both ts) n g d) (f' : IsFar (both (ts.map (ren nm))) n (nm g) d') : at? d' (nm s) = at? d s := by
  have fw : ∀ {v k c}, Way (both ts) g v k c → Way (both (ts.map (ren nm))) (nm g) (nm v) k c := fun {v k c} w => by
    induction w with
    | nil => exact .nil
    | cons he _ ih => exact .cons (both_ren.mpr ⟨_, he, rfl⟩) ih
  have bw : ∀ {v' k c}, Way (both (ts.map (ren nm))) (nm g) v' k c → ∀ v, v < n → v' = nm v → Way (both ts) g v k c := fun {v' k c} w => by
    induction w with
    | nil =>
      intro v hv e
      have := hinj _ _ hg hv e
      subst this
      exact .nil
    | @cons a b p k c he _ ih =>
      intro v hv e
      obtain ⟨x, hx, q⟩ := both_ren.mp he
      obtain ⟨x1, x2, x3⟩ := x
      have hb := both_lt hF _ hx
      unfold ren at q
      simp only [Prod.mk.injEq] at q
      have e1 : x1 = v := hinj _ _ hb.1 hv (q.1.symm.trans e)
      subst e1
      have w2 := ih x2 hb.2 q.2.1
      rw [q.2.2]
      exact .cons hx w2
  cases h1 : at? d s with
  | some c =>
    obtain ⟨k, w⟩ := f.way s c h1
    obtain ⟨c', e', l'⟩ := f'.least _ _ _ (fw w) _ rfl
    obtain ⟨k2, w2⟩ := f'.way _ _ e'
    obtain ⟨c2, e2, l2⟩ := f.least _ _ _ (bw w2 s hs rfl) _ rfl
    rw [h1] at e2
    cases e2
    rw [e']
    congr 1
    omega
  | none =>
    cases h2 : at? d' (nm s) with
    | none => rfl
    | some c =>
      obtain ⟨k2, w2⟩ := f'.way _ _ h2
      obtain ⟨c2, e2, l2⟩ := f.least _ _ _ (bw w2 s hs rfl) _ rfl
      rw [h1] at e2
      cases e2
end K

/-! list(range(n)) -/
namespace L2
open PySem PySem.Spec PyProof.Rows
theorem vals_by : ∀ {xs : List V} {us : List Value}, xs.length = us.length → (∀ (j : Nat) (x : V) (u : Value), xs[j]? = some x → us[j]? = some u → RelV x u) → Vals xs us
  | [], [], _, _ => .nil
  | [], _ :: _, h, _ => by simp at h
  | _ :: _, [], h, _ => by simp at h
  | x :: xs, u :: us, h, f => .cons (f 0 x u rfl rfl) (vals_by (by simpa using h) fun j y w h1 h2 => f (j + 1) y w (by simpa using h1) (by simpa using h2))
section
variable {X : Cx}
theorem cr_range1 : CallR X (.type "range") (fun vs H Q => ∃ j, vs = [V.int j] ∧ ∀ p, H p = none → Q (.ref p) (upd H p (.rng 0 j))) := by
  intro pins s σ H vs us Q I r h
  obtain ⟨j, rfl, q⟩ := h
  obtain ⟨u1, rfl, rj⟩ := vals1 r
  obtain ⟨u, rfl⟩ := rj
  refine call_range_1 ⟨.ref s.heap.objs.size, upd H s.heap.objs.size (.rng 0 j), I.laid (t' := s.toks + 1 + 1) (fun b o e => Heap.get?_push_of_some _ e) (Nat.le_refl _) ?_, rfl, q _ (I.hok.fresh (Nat.le_refl _))⟩
  exact ⟨s.toks, u, s.toks + 1, Heap.get?_push_size _ rfl⟩
theorem call_list_rng (hc : X.calm = true) : CallR X (.type "list") (fun xs H Q => ∃ (p : Addr) (n : Nat), xs = [.ref p] ∧ H p = some (.rng 0 (n : Nat)) ∧ n ≤ 1000 ∧ ∀ l, H l = none → Q (.ref l) (upd H l (.lst ((List.range n).map fun i => V.int (i : Nat))))) := by
  intro pins s σ H xs us Q I r h
  obtain ⟨p, n, rfl, hp, hn, q⟩ := h
  obtain ⟨u, rfl, rx⟩ := vals1 r
  obtain rfl : u = Value.ref p := rx
  obtain ⟨t1, t2, t3, ho⟩ := I.hok p _ hp
  refine call_list_range (n := n) (I.ok.hd hc) ho (small_one (by omega) (by omega) (by omega) (by omega)) (by rw [rangeSize_one]; split <;> omega) (by omega) fun h' tk acc' c' hk hS hacc => ?_
  refine ⟨.ref s.heap.objs.size, upd H s.heap.objs.size (.lst ((List.range n).map fun i => V.int (i : Nat))), I.laid hk (Nat.le_refl _) (show ObjOk X.prog X.w _ _ _ (.lst _) from ⟨?_, acc'.toList, c', ?_, ?_⟩), rfl, q _ (I.hok.fresh (Nat.le_refl _))⟩
  · rw [List.length_map, List.length_range, sizeLine_eq]; omega
  · have el : acc'.toList.length = acc'.size := by simp
    refine vals_by (by rw [List.length_map, List.length_range, el]; exact hacc.1.symm) fun j x w h1 h2 => ?_
    obtain ⟨t, hi⟩ := hacc.2 j w (by rw [← Array.getElem?_toList]; exact h2)
    have hj : j < n := by
      have := (List.getElem?_eq_some_iff.mp h1).1
      rwa [List.length_map, List.length_range] at this
    rw [List.getElem?_map, List.getElem?_range hj] at h1
    cases h1
    refine ⟨t, ?_⟩
    rw [hi]
    congr 1
    omega
  · rw [hS]
end
end L2
namespace K
open PySem PySem.Spec PyProof.Rows L2
open Sw (T3 Dist at?)
theorem rm65 {k : Nat} {A : Around} (r : Room k A) : A.units + 65 < cLine := by have := r.un; omega
def endD (x : Nat × List Nat) : PyData := .tuple [.int (x.1 : Nat), .tuple (x.2.map fun h => .int (h : Nat))]
theorem ints_lay : ∀ l : List Nat, PyData.canLayAll0 (l.map fun h => PyData.int (h : Nat)) = true
  | [] => by simp [PyData.canLayAll0]
  | h :: l => by simp [PyData.canLayAll0, PyData.canLay0, ints_lay l]
theorem ints_depth : ∀ l : List Nat, PyData.depthAll (l.map fun h => PyData.int (h : Nat)) ≤ 1
  | [] => by simp [PyData.depthAll]
  | h :: l => by
    have := ints_depth l
    simp only [List.map_cons, PyData.depthAll, PyData.depth]
    omega
theorem ints_eqv : ∀ l : List Nat, PyData.eqvAll (l.map fun h => PyData.int (h : Nat)) (l.map fun h => PyData.int (h : Nat)) = true
  | [] => by simp [PyData.eqvAll]
  | h :: l => by simp [PyData.eqvAll, PyData.eqv, ints_eqv l]
theorem endD_lay (x : Nat × List Nat) : (endD x).canLay0 = true := by simp [endD, PyData.canLay0, PyData.canLayAll0, ints_lay]
theorem endD_depth (x : Nat × List Nat) : (endD x).depth ≤ 4 := by
  have := ints_depth x.2
  simp only [endD, PyData.depth, PyData.depthAll]
  omega
theorem endD_eqv (x : Nat × List Nat) : PyData.eqv (endD x) (endD x) = true := by simp [endD, PyData.eqv, PyData.eqvAll, ints_eqv]
theorem endD_shaped (x : Nat × List Nat) : SeqAt.shaped (endD x) = true := by
  have := endD_depth x
  unfold SeqAt.shaped
  rw [endD_lay, decide_eq_true (by omega)]
  rfl
theorem ends_lay : ∀ l : List (Nat × List Nat), PyData.canLayAll0 (l.map endD) = true
  | [] => by simp [PyData.canLayAll0]
  | h :: l => by simp [PyData.canLayAll0, endD_lay, ends_lay l]
theorem ends_depth : ∀ l : List (Nat × List Nat), PyData.depthAll (l.map endD) ≤ 4
  | [] => by simp [PyData.depthAll]
  | h :: l => by
    have h1 := ends_depth l
    have h2 := endD_depth h
    simp only [List.map_cons, PyData.depthAll]
    omega
theorem ends_shaped (l : List (Nat × List Nat)) : SeqAt.shaped (.list (l.map endD)) = true := by
  have h1 := ends_depth l
  have h2 : PyData.depth (.list (l.map endD)) ≤ 64 := by
    simp only [PyData.depth]
    omega
  show (PyData.canLay0 (.list (l.map endD)) && decide (PyData.depth (.list (l.map endD)) ≤ 64)) = true
  rw [Bool.and_eq_true]
  exact ⟨by simp only [PyData.canLay0]; exact ends_lay l, decide_eq_true h2⟩
theorem ends_any {l : List (Nat × List Nat)} {x : Nat × List Nat} (h : x ∈ l) : ((l.map endD).any fun z => PyData.eqv z (endD x)) = true := by
  rw [List.any_map, List.any_eq_true]
  exact ⟨x, h, endD_eqv x⟩
theorem dp_ints {K : PySem.W.Frag} {H : Hp} : ∀ l : List Nat, Paired (Dp K H) (l.map fun h => V.int (h : Nat)) (l.map fun h => PyData.int (h : Nat))
  | [] => .nil
  | h :: l => .cons (.int _) (dp_ints l)
/-- the names: a list of houses put round -/
theorem perm_ints {n : Nat} {ys : List V} (h : ys.Perm ((List.range n).map fun i => V.int (i : Nat))) : ∃ ns : List Nat, ys = ns.map (fun i => V.int (i : Nat)) ∧ ns.Perm (List.range n) := by
  have key : ∀ zs : List V, (∀ y ∈ zs, ∃ b : Nat, y = V.int (b : Nat)) → ∃ bs : List Nat, zs = bs.map fun i => V.int (i : Nat) := by
    intro zs
    induction zs with
    | nil => intro _; exact ⟨[], rfl⟩
    | cons z zs ih =>
      intro hz
      obtain ⟨b, e⟩ := hz z List.mem_cons_self
      obtain ⟨bs, e2⟩ := ih fun y m => hz y (List.mem_cons_of_mem _ m)
      exact ⟨b :: bs, by rw [e, e2]; rfl⟩
  obtain ⟨ns, e⟩ := key ys fun y m => by
    obtain ⟨b, _, e⟩ := List.mem_map.mp (h.mem_iff.mp m)
    exact ⟨b, e.symm⟩
  refine ⟨ns, e, ?_⟩
  rw [e] at h
  have h2 := h.map (fun v => match v with | V.int a => a.toNat | _ => 0)
  rw [List.map_map, List.map_map] at h2
  have e1 : ∀ l : List Nat, l.map ((fun v => match v with | V.int a => a.toNat | _ => 0) ∘ fun i : Nat => V.int (i : Nat)) = l := fun l => by
    induction l with
    | nil => rfl
    | cons x l ih => rw [List.map_cons, ih]; rfl
  rw [e1, e1] at h2
  exact h2
theorem nodup_nat {N : List Nat} (hN : N.Nodup) {i j : Nat} {x : Nat} (a : N[i]? = some x) (b : N[j]? = some x) : i = j := by
  obtain ⟨h1, e1⟩ := List.getElem?_eq_some_iff.mp a
  obtain ⟨h2, e2⟩ := List.getElem?_eq_some_iff.mp b
  exact (List.getElem_inj hN).mp (e1.trans e2.symm)
def nmF (ns : List Nat) (i : Nat) : Nat := (ns[i]?).getD 0
theorem nm_at {ns : List Nat} {n i : Nat} (hp : ns.Perm (List.range n)) (hi : i < n) : (ns.map fun i => V.int (i : Nat))[i]? = some (V.int (nmF ns i : Nat)) := by
  have hl : ns.length = n := by rw [hp.length_eq, List.length_range]
  rw [List.getElem?_map, List.getElem?_eq_getElem (by omega)]
  unfold nmF
  rw [List.getElem?_eq_getElem (by omega)]
  rfl
theorem nm_lt {ns : List Nat} {n i : Nat} (hp : ns.Perm (List.range n)) (hi : i < n) : nmF ns i < n := by
  have hl : ns.length = n := by rw [hp.length_eq, List.length_range]
  unfold nmF
  rw [List.getElem?_eq_getElem (by omega)]
  exact List.mem_range.mp (hp.mem_iff.mp (List.getElem_mem _))
theorem nm_inj {ns : List Nat} {n : Nat} (hp : ns.Perm (List.range n)) : ∀ a b, a < n → b < n → nmF ns a = nmF ns b → a = b := fun a b ha hb e => by
  have hl : ns.length = n := by rw [hp.length_eq, List.length_range]
  have nd : ns.Nodup := hp.nodup_iff.mpr List.nodup_range
  have h1 : ns[a]? = some ns[a] := List.getElem?_eq_getElem (by omega)
  have h2 : ns[b]? = some ns[b] := List.getElem?_eq_getElem (by omega)
  unfold nmF at e
  rw [h1, h2] at e
  have e : ns[a] = ns[b] := e
  rw [e] at h1
  exact nodup_nat nd h1 h2
end K

namespace K
open PySem PySem.Spec PyProof.Rows L2
def top (i : Nat) : Stmt := PySem.Challenge.pw_swapslip_k05_whole_prices_by_all_ways.main.body.getD i (.Pass ⟨0, 0, 0, 0⟩)
abbrev sBox : Stmt := top 14
abbrev sTake : Stmt := top 15
section
variable {P : Program} {w : World} {K : PySem.W.Frag} {mg : Str → Option Value} {base : Heap}
theorem scBox : FnScope ["_law_script"] ["_law_script"] (defScope sBox) := ⟨rfl, rfl, rfl, by decide +kernel, rfl, by decide +kernel, by decide +kernel⟩
theorem ok_box {f : Addr} {fd : FuncData} {k : Nat} (F : Fun K "_law_box" "_law_box" sBox f fd) (ml : mg "list" = none) : FnOk P w K mg base CX0 (k + 1) f fd ["_law_script"] (spBox K) := by
  refine F.ok scBox (fun vs H Q E h => ?_) (fun cdv A outer s H vs Q E hr h => ?_)
  · obtain ⟨a, ns, rfl, _⟩ := h
    rfl
  · obtain ⟨a, ns, rfl, hS, hlen, q⟩ := h
    refine ⟨_, pss_one (ps_ret (pe_lst (pa_cons (pe_callTy call_list_of (by rfl) ml (by decide +kernel) (pa_cons (pe_slice sl_list (pv 0) po_none (po_some pe_int)) pa_nil)) (pa_cons pe_int (pa_cons pe_int (pa_cons pe_int pa_nil)))))), ?_⟩
    refine ⟨.ref a, rfl, 63, rfl, a, _, rfl, hS, fun c nc => ?_⟩
    refine ⟨c, _, rfl, .inl (.inl (.inl upd_same)), fun l nl => ?_⟩
    refine ⟨(by show 4 ≤ sizeLine; decide), fun p np => ?_⟩
    have e : ∃ ms : List Int, cutV (ns.map V.int) none (some 63) = ms.map V.int ∧ ms.length ≤ 63 := by
      refine ⟨(ns.drop (HT.sIx ns.length 0 none)).take (HT.sIx ns.length ns.length (some 63) - HT.sIx ns.length 0 none), ?_, ?_⟩
      · unfold cutV
        rw [List.length_map, ← List.map_drop, ← List.map_take]
      · rw [List.length_take, List.length_drop]; omega
    obtain ⟨ms, em, hm⟩ := e
    rw [em] at nl np ⊢
    have s1 := same_upd (o := .lst (ms.map V.int)) nc
    have s2 := same_upd (o := .lst (ms.map V.int)) nl
    have s3 := same_upd (o := .lst [.ref l, .int 0, .int 0, .int 29]) np
    have nlp : l ≠ p := ne_of_none upd_same np
    refine q p l _ (s1.free (s2.free np)) (s1.free nl) ⟨ms, 0, 0, 29, upd_same, ?_, by omega, by omega, by omega, by omega, hm⟩ (s1.trans (s2.trans s3))
    rw [upd_ne nlp, upd_same]
theorem scTake : FnScope ["_law_box_here", "_law_sides", "_law_tail", "_law_cell", "_law_seed"] ["_law_box_here", "_law_sides"] (defScope sTake) := ⟨rfl, rfl, rfl, by decide +kernel, rfl, by decide +kernel, by decide +kernel⟩
theorem ok_take {f : Addr} {fd : FuncData} {k : Nat} (F : Fun K "_law_take" "_law_take" sTake f fd) (mlen : mg "len" = none) : FnOk P w K mg base CX0 (k + 1) f fd ["_law_box_here", "_law_sides"] spTake := by
  refine F.ok scTake (fun vs H Q E h => ?_) (fun cdv A outer s H vs Q E hr h => ?_)
  · obtain ⟨p, q, n, rfl, _⟩ := h
    rfl
  · obtain ⟨p, q, n, rfl, hB, hn, hn2, kk⟩ := h
    refine ⟨_, pss_cons (ps_if (pt_cmpR op_gt (pe_ix ix_list (pv 0) pe_int (fun _ _ => rfl)) pe_int (nomark _))
        (pss_cons (ps_set (i := 2) scTake.nd rfl (.inl rfl) (pe_ix ix_list (pv 0) pe_int (fun _ _ => rfl)))
        (pss_cons (ps_asg (pe_op op_fdivN (pv 2) (pv 1)) (pg_sub (pv 0) pe_int set_list))
        (pss_one (ps_ret (pe_op op_modN (pv 2) (pv 1)))))) pss_nil)
      (pss_cons (ps_set (i := 3) scTake.nd rfl (.inl rfl) pe_int)
      (pss_cons (ps_if (pt_cmpR op_lt (pe_ix ix_list (pv 0) pe_int (fun _ _ => rfl)) (pe_callB call_len_seq (by rfl) mlen PySem.boot_len (pa_cons (pe_ix ix_list (pv 0) pe_int (fun _ _ => rfl)) pa_nil)) (nomark _))
        (pss_cons (ps_set (i := 3) scTake.nd rfl (.inl rfl) (pe_ix ix_list (pe_ix ix_list (pv 0) pe_int (fun _ _ => rfl)) (pe_ix ix_list (pv 0) pe_int (fun _ _ => rfl)) (fun _ _ => rfl)))
        (pss_one (ps_augS (pv 0) pe_int get_listA pe_int ip_add set_list))) pss_nil)
      (pss_cons (ps_if (pt_cmpR op_ge (pv 3) (pe_op op_pow pe_int pe_int) (nomark _))
        (pss_cons (ps_asg (pe_op op_fdivN (pv 3) (pv 1)) (pg_sub (pv 0) pe_int set_list))
        (pss_one (ps_ret (pe_op op_modN (pv 3) (pv 1))))) pss_nil)
      (pss_cons (ps_set (i := 4) scTake.nd rfl (.inl rfl) (pe_ix ix_list (pv 0) pe_int (fun _ _ => rfl)))
      (pss_cons (ps_asg (pe_op op_modN (pe_op op_add (pe_op op_add (pe_op op_add (pe_op op_pow (pv 4) pe_int) (pe_op op_mul pe_int (pv 4))) (pe_op op_mul pe_int (pe_op op_modN (pv 3) pe_int))) pe_int) pe_int) (pg_sub (pv 0) pe_int set_list))
      (pss_one (ps_ret (pe_op op_modN (pe_op op_fdivN (pe_ix ix_list (pv 0) pe_int (fun _ _ => rfl)) pe_int) (pv 1))))))))), ?_⟩
    obtain ⟨ns, i, t, sd, h1, h2, hi0, hi1, hs0, hs1, hl⟩ := id hB
    have npq := hB.ne
    refine ⟨_, rfl, p, _, 2, _, rfl, rfl, SqL.of h1, rfl, _, _, rfl, rfl, _, rfl, ?_⟩
    refine ite2 (fun c => ?_) (fun c => ?_)
    · refine ⟨_, rfl, p, _, 2, _, rfl, rfl, SqL.of h1, rfl, ?_⟩
      refine ⟨_, rfl, _, rfl, t, n, rfl, rfl, ⟨by omega, by omega⟩, _, rfl, p, _, 2, 2, rfl, rfl, h1, rfl, ?_⟩
      refine ⟨_, rfl, _, rfl, t, n, rfl, rfl, (by show n ≠ 0; omega), ?_⟩
      refine kk _ _ (fmod_le hn).1 (fmod_le hn).2 ⟨ns, i, _, sd, upd_same, by rw [upd_ne npq.symm]; exact h2, hi0, hi1, hs0, hs1, hl⟩ But.put
    · -- the cell: some int, the box with another place
      refine ⟨_, rfl, p, _, 1, _, rfl, rfl, SqL.of h1, rfl, _, rfl, p, _, 0, _, rfl, rfl, SqL.of h1, rfl, q, _, rfl, .inl (SqL.of h2), _, _, rfl, rfl, _, rfl, ?_⟩
      rw [List.length_map]
      refine ite2 (fun c => ?_) (fun c => ?_)
      · have hlt : i.toNat < ns.length := by have := of_decide_eq_true c; omega
        have hat : (ns.map V.int)[i.toNat]? = some (.int ns[i.toNat]) := by rw [List.getElem?_map, List.getElem?_eq_getElem hlt]; rfl
        refine ⟨_, rfl, p, _, 0, _, rfl, rfl, SqL.of h1, rfl, _, rfl, p, _, 1, _, rfl, rfl, SqL.of h1, rfl, q, _, i, _, rfl, rfl, SqL.of h2, atI0 hi0 hat, ?_⟩
        refine ⟨_, rfl, p, _, 1, _, rfl, rfl, SqL.of h1, by omega, rfl, i, 1, rfl, rfl, p, _, 1, 1, rfl, rfl, h1, rfl, ?_⟩
        generalize ns[i.toNat] = cell
        have g1 : (upd H p (.lst [.ref q, .int (i + 1), .int t, .int sd])) p = some (.lst [.ref q, .int (i + 1), .int t, .int sd]) := upd_same
        have g2 : (upd H p (.lst [.ref q, .int (i + 1), .int t, .int sd])) q = some (.lst (ns.map V.int)) := by rw [upd_ne npq.symm]; exact h2
        have gi0 : 0 ≤ i + 1 := by omega
        have gi1 : i + 1 ≤ ns.length := by omega
        have gb : But p H (upd H p (.lst [.ref q, .int (i + 1), .int t, .int sd])) := But.put
        show tSeq _ _ _ _ (upd H p (.lst [.ref q, .int (i + 1), .int t, .int sd]))
        generalize upd H p (.lst [.ref q, .int (i + 1), .int t, .int sd]) = H2 at g1 g2 gb ⊢
        generalize i + 1 = i2 at g1 gi0 gi1
        refine ⟨_, rfl, 10, 18, rfl, rfl, ⟨by decide, by decide, by decide⟩, _, _, rfl, rfl, _, rfl, ?_⟩
        refine ite2 (fun c2 => ?_) (fun c2 => ?_)
        · refine ⟨_, rfl, _, rfl, _, n, rfl, rfl, ⟨by omega, by omega⟩, _, rfl, p, _, 2, 2, rfl, rfl, g1, rfl, ?_⟩
          refine ⟨_, rfl, _, rfl, _, n, rfl, rfl, (by show n ≠ 0; omega), ?_⟩
          exact kk _ _ (fmod_le hn).1 (fmod_le hn).2 ⟨ns, _, _, sd, upd_same, by rw [upd_ne npq.symm]; exact g2, gi0, gi1, hs0, hs1, hl⟩ (gb.trans But.put)
        · refine ⟨_, rfl, p, _, 3, _, rfl, rfl, SqL.of g1, rfl, ?_⟩
          refine ⟨_, rfl, sd, 3, rfl, rfl, ⟨by decide, by decide, by omega⟩, _, rfl, 69621, sd, rfl, rfl, .inl ⟨by decide, by decide⟩, _, _, rfl, rfl, _, rfl, _, 2147483549, rfl, rfl, (by decide : (2147483549 : Int) ≠ 0),
            48271, _, rfl, rfl, .inl ⟨by decide, by decide⟩, _, _, rfl, rfl, _, _, rfl, rfl, _, 2147483549, rfl, rfl, (by decide : (2147483549 : Int) ≠ 0), _, rfl, p, _, 3, 3, rfl, rfl, g1, rfl, ?_⟩
          refine ⟨_, rfl, p, _, 3, _, rfl, rfl, SqL.of upd_same, rfl, _, 64, rfl, rfl, ⟨by decide, by decide⟩, _, rfl, _, n, rfl, rfl, (by show n ≠ 0; omega), ?_⟩
          exact kk _ _ (fmod_le hn).1 (fmod_le hn).2 ⟨ns, _, _, _, upd_same, by rw [upd_ne npq.symm]; exact g2, gi0, gi1, (fmod_le (by decide)).1, (fmod_le (by decide)).2, hl⟩ (gb.trans But.put)
      · have g1 := h1
        have g2 := h2
        have gi0 := hi0
        have gi1 := hi1
        have gb := But.refl p H
        refine ⟨_, rfl, 10, 18, rfl, rfl, ⟨by decide, by decide, by decide⟩, _, _, rfl, rfl, _, rfl, ?_⟩
        refine ite2 (fun c2 => ?_) (fun c2 => ?_)
        · refine ⟨_, rfl, _, rfl, _, n, rfl, rfl, ⟨by omega, by omega⟩, _, rfl, p, _, 2, 2, rfl, rfl, g1, rfl, ?_⟩
          refine ⟨_, rfl, _, rfl, _, n, rfl, rfl, (by show n ≠ 0; omega), ?_⟩
          exact kk _ _ (fmod_le hn).1 (fmod_le hn).2 ⟨ns, _, _, sd, upd_same, by rw [upd_ne npq.symm]; exact g2, gi0, gi1, hs0, hs1, hl⟩ (gb.trans But.put)
        · refine ⟨_, rfl, p, _, 3, _, rfl, rfl, SqL.of g1, rfl, ?_⟩
          refine ⟨_, rfl, sd, 3, rfl, rfl, ⟨by decide, by decide, by omega⟩, _, rfl, 69621, sd, rfl, rfl, .inl ⟨by decide, by decide⟩, _, _, rfl, rfl, _, rfl, _, 2147483549, rfl, rfl, (by decide : (2147483549 : Int) ≠ 0),
            48271, _, rfl, rfl, .inl ⟨by decide, by decide⟩, _, _, rfl, rfl, _, _, rfl, rfl, _, 2147483549, rfl, rfl, (by decide : (2147483549 : Int) ≠ 0), _, rfl, p, _, 3, 3, rfl, rfl, g1, rfl, ?_⟩
          refine ⟨_, rfl, p, _, 3, _, rfl, rfl, SqL.of upd_same, rfl, _, 64, rfl, rfl, ⟨by decide, by decide⟩, _, rfl, _, n, rfl, rfl, (by show n ≠ 0; omega), ?_⟩
          exact kk _ _ (fmod_le hn).1 (fmod_le hn).2 ⟨ns, _, _, _, upd_same, by rw [upd_ne npq.symm]; exact g2, gi0, gi1, (fmod_le (by decide)).1, (fmod_le (by decide)).2, hl⟩ (gb.trans But.put)
end
end K

namespace K
open PySem PySem.Spec PyProof.Rows L2
abbrev sSame : Stmt := top 16
section
variable {P : Program} {w : World} {K : PySem.W.Frag} {mg : Str → Option Value} {base : Heap}
theorem scSame : FnScope ["_law_found", "_law_due", "_law_x", "_law_y"] ["_law_found", "_law_due"] (defScope sSame) := ⟨rfl, rfl, rfl, by decide +kernel, rfl, by decide +kernel, by decide +kernel⟩
structure SameTxt (mg : Str → Option Value) : Prop where
  isi : mg "isinstance" = none
  lst : mg "list" = none
  tup : mg "tuple" = none
  bool : mg "bool" = none
  int : mg "int" = none
  str : mg "str" = none
  len : mg "len" = none
  all : mg "all" = none
  zip : mg "zip" = none
theorem ok_same {f : Addr} {fd : FuncData} (F : Fun K "_law_same" "_law_same" sSame f fd) (T : SameTxt mg) (gf : mg "_law_same" = some (.ref f)) (b : Binds K fd ["_law_found", "_law_due"] []) : ∀ n : Nat, FnOk P w K mg base CX0 n f fd ["_law_found", "_law_due"] (spSame n)
  | 0 => fnok_never fun vs H Q E ⟨x, y, _, h, _⟩ => h
  | n + 1 => by
    have G := ok_same F T gf b n
    refine F.ok scSame (fun vs H Q E h => ?_) (fun cdv A outer s H vs Q E hr h => ?_)
    · obtain ⟨x, y, rfl, _⟩ := h
      rfl
    · obtain ⟨x, y, rfl, hE, kk⟩ := h
      refine ⟨_, pss_cons (ps_if (pt_val (pe_callB call_isiT (by rfl) T.isi (by decide +kernel) (pa_cons (pv 1) (pa_cons (pe_tup (pa_cons (pe_bltn (v := .ty "list") (by rfl) T.lst (by decide +kernel) rfl) (pa_cons (pe_bltn (v := .ty "tuple") (by rfl) T.tup (by decide +kernel) rfl) pa_nil))) pa_nil))))
          (pss_cons (ps_if (PW.pt (pw_or (pt_cmpR op_ne (pe_callB call_isi (by rfl) T.isi (by decide +kernel) (pa_cons (pv 0) (pa_cons (pe_bltn (v := .ty "list") (by rfl) T.lst (by decide +kernel) rfl) pa_nil)))
                (pe_callB call_isi (by rfl) T.isi (by decide +kernel) (pa_cons (pv 1) (pa_cons (pe_bltn (v := .ty "list") (by rfl) T.lst (by decide +kernel) rfl) pa_nil))) (nomark _))
              (pw_or1 (pt_cmpR op_ne (pe_callB call_isi (by rfl) T.isi (by decide +kernel) (pa_cons (pv 0) (pa_cons (pe_bltn (v := .ty "tuple") (by rfl) T.tup (by decide +kernel) rfl) pa_nil)))
                (pe_callB call_isi (by rfl) T.isi (by decide +kernel) (pa_cons (pv 1) (pa_cons (pe_bltn (v := .ty "tuple") (by rfl) T.tup (by decide +kernel) rfl) pa_nil))) (nomark _))))) (pss_one (ps_ret pe_bl)) pss_nil)
          (pss_one (ps_ret (pe_and (pe_cmpR op_eq (pe_callB call_len_seq (by rfl) T.len PySem.boot_len (pa_cons (pv 0) pa_nil)) (pe_callB call_len_seq (by rfl) T.len PySem.boot_len (pa_cons (pv 1) pa_nil)) (nomark _))
            (pe_one (pe_callB (cr_all rfl) (by rfl) T.all (by decide +kernel) (pa_cons (pe_lc (own := [("_law_x", 2), ("_law_y", 3)]) (g := gTup K 2 (gCons (gName 2) (gCons (gName 3) gNil))) (tt := tYes) rfl scSame.nd (RZ.pi_zipA (by rfl) T.zip (pa_cons (pv 0) (pa_cons (pv 1) pa_nil)))
                (blkOk_by (own := [("_law_x", 2), ("_law_y", 3)]) (N := ["_law_found", "_law_due", "_law_x", "_law_y"]) (sc := defScope sSame) (by decide +kernel))
                (fun _ _ _ _ _ => by exact (pg_tup rfl (pgs_cons (pg_name (i := 2) scSame.nd rfl (Or.inl rfl)) (pgs_cons (pg_name (i := 3) scSame.nd rfl (Or.inl rfl)) pgs_nil)))) (fun _ _ _ _ _ => pts_nil)
                (fun _ _ _ _ _ => pe_call G hr (by rfl) gf F.kp b .nil pass0 (pa_cons (pv 2) (pa_cons (pv 3) pa_nil)))) pa_nil))))))) pss_nil)
        (pss_cons (ps_if (PW.pt (pw_or (pt_cmpR op_ne (pe_cmpR op_isN (pv 0) pe_non (nomark _)) (pe_cmpR op_isN (pv 1) pe_non (nomark _)) (nomark _))
            (pw_or1 (pt_cmpR op_ne (pe_callB call_isi (by rfl) T.isi (by decide +kernel) (pa_cons (pv 0) (pa_cons (pe_bltn (v := .ty "bool") (by rfl) T.bool (by decide +kernel) rfl) pa_nil)))
                (pe_callB call_isi (by rfl) T.isi (by decide +kernel) (pa_cons (pv 1) (pa_cons (pe_bltn (v := .ty "bool") (by rfl) T.bool (by decide +kernel) rfl) pa_nil))) (nomark _))))) (pss_one (ps_ret pe_bl)) pss_nil)
        (pss_cons (ps_if (pt_cmpR op_ne (pe_callB call_isi (by rfl) T.isi (by decide +kernel) (pa_cons (pv 0) (pa_cons (pe_bltn (v := .ty "int") (by rfl) T.int (by decide +kernel) rfl) pa_nil)))
                (pe_callB call_isi (by rfl) T.isi (by decide +kernel) (pa_cons (pv 1) (pa_cons (pe_bltn (v := .ty "int") (by rfl) T.int (by decide +kernel) rfl) pa_nil))) (nomark _)) (pss_one (ps_ret pe_bl)) pss_nil)
        (pss_one (ps_ret (pe_and (pe_cmpR op_eq (pe_callB call_isi (by rfl) T.isi (by decide +kernel) (pa_cons (pv 0) (pa_cons (pe_bltn (v := .ty "str") (by rfl) T.str (by decide +kernel) rfl) pa_nil)))
                (pe_callB call_isi (by rfl) T.isi (by decide +kernel) (pa_cons (pv 1) (pa_cons (pe_bltn (v := .ty "str") (by rfl) T.str (by decide +kernel) rfl) pa_nil))) (nomark _)) (pe_one (pe_cmpR op_eq (pv 0) (pv 1) (nomark _)))))))), ?_⟩
      refine ⟨_, rfl, (by show 2 ≤ sizeLine; decide), fun t nt => ?_⟩
      have s0 : Same H (upd H t (.tup [.ty "list", .ty "tuple"])) := same_upd nt
      have hE1 := Eqv.same s0 hE
      have ht : (upd H t (.tup [.ty "list", .ty "tuple"])) t = some (.tup [.ty "list", .ty "tuple"]) := upd_same
      rcases hE1 with ⟨e, hf⟩ | ⟨a1, a2, xs, ys, rfl, rfl, hab, hl, hz, hi⟩
      · -- flat
        subst e
        cases x with
        | non =>
          refine ⟨_, t, [.ty "list", .ty "tuple"], _, [.type "list", .type "tuple"], false, rfl, ht, .cons (.ty _) (.cons (.ty _) .nil), (.base .non), kit2 (b := false) (c := false) (by decide +kernel) (by decide +kernel), ?_⟩
          refine ⟨_, rfl, iteF ?_⟩
          refine ⟨_, rfl, rfl, _, rfl, rfl, rfl, _, rfl, iteNS rfl ?_⟩
          refine ⟨_, rfl, _, _, _, _, false, rfl, .ty _, (.base .non), kit_ty (by decide +kernel), ?_⟩
          refine ⟨_, rfl, _, _, _, _, false, rfl, .ty _, (.base .non), kit_ty (by decide +kernel), ?_⟩
          refine ⟨rfl, _, rfl, iteNS rfl ?_⟩
          refine ⟨_, rfl, _, _, _, _, false, rfl, .ty _, (.base .non), kit_ty (by decide +kernel), ?_⟩
          refine ⟨_, rfl, _, _, _, _, false, rfl, .ty _, (.base .non), kit_ty (by decide +kernel), ?_⟩
          refine ⟨rfl, _, rfl, iteNS rfl ?_⟩
          refine ⟨_, rfl, _, _, _, _, false, rfl, .ty _, (.base .non), kit_ty (by decide +kernel), ?_⟩
          refine ⟨_, rfl, _, _, _, _, false, rfl, .ty _, (.base .non), kit_ty (by decide +kernel), ?_⟩
          refine ⟨rfl, _, rfl, ?_⟩
          rw [decide_eq_true rfl]
          refine iteT ⟨_, rfl, _, rfl, rfl, ?_⟩
          rw [decide_eq_true rfl]
          exact kk _ s0
        | bl v =>
          refine ⟨_, t, [.ty "list", .ty "tuple"], _, [.type "list", .type "tuple"], false, rfl, ht, .cons (.ty _) (.cons (.ty _) .nil), (.base (.bl v)), kit2 (b := false) (c := false) (by decide +kernel) (by decide +kernel), ?_⟩
          refine ⟨_, rfl, iteF ?_⟩
          refine ⟨_, rfl, rfl, _, rfl, rfl, rfl, _, rfl, iteNS rfl ?_⟩
          refine ⟨_, rfl, _, _, _, _, true, rfl, .ty _, (.base (.bl v)), kit_ty (by decide +kernel), ?_⟩
          refine ⟨_, rfl, _, _, _, _, true, rfl, .ty _, (.base (.bl v)), kit_ty (by decide +kernel), ?_⟩
          refine ⟨rfl, _, rfl, iteNS rfl ?_⟩
          refine ⟨_, rfl, _, _, _, _, true, rfl, .ty _, (.base (.bl v)), kit_ty (by decide +kernel), ?_⟩
          refine ⟨_, rfl, _, _, _, _, true, rfl, .ty _, (.base (.bl v)), kit_ty (by decide +kernel), ?_⟩
          refine ⟨rfl, _, rfl, iteNS rfl ?_⟩
          refine ⟨_, rfl, _, _, _, _, false, rfl, .ty _, (.base (.bl v)), kit_ty (by decide +kernel), ?_⟩
          refine ⟨_, rfl, _, _, _, _, false, rfl, .ty _, (.base (.bl v)), kit_ty (by decide +kernel), ?_⟩
          refine ⟨rfl, _, rfl, ?_⟩
          rw [decide_eq_true rfl]
          refine iteT ⟨_, rfl, _, rfl, rfl, ?_⟩
          rw [decide_eq_true rfl]
          exact kk _ s0
        | int v =>
          refine ⟨_, t, [.ty "list", .ty "tuple"], _, [.type "list", .type "tuple"], false, rfl, ht, .cons (.ty _) (.cons (.ty _) .nil), (.base (.int v)), kit2 (b := false) (c := false) (by decide +kernel) (by decide +kernel), ?_⟩
          refine ⟨_, rfl, iteF ?_⟩
          refine ⟨_, rfl, rfl, _, rfl, rfl, rfl, _, rfl, iteNS rfl ?_⟩
          refine ⟨_, rfl, _, _, _, _, false, rfl, .ty _, (.base (.int v)), kit_ty (by decide +kernel), ?_⟩
          refine ⟨_, rfl, _, _, _, _, false, rfl, .ty _, (.base (.int v)), kit_ty (by decide +kernel), ?_⟩
          refine ⟨rfl, _, rfl, iteNS rfl ?_⟩
          refine ⟨_, rfl, _, _, _, _, true, rfl, .ty _, (.base (.int v)), kit_ty (by decide +kernel), ?_⟩
          refine ⟨_, rfl, _, _, _, _, true, rfl, .ty _, (.base (.int v)), kit_ty (by decide +kernel), ?_⟩
          refine ⟨rfl, _, rfl, iteNS rfl ?_⟩
          refine ⟨_, rfl, _, _, _, _, false, rfl, .ty _, (.base (.int v)), kit_ty (by decide +kernel), ?_⟩
          refine ⟨_, rfl, _, _, _, _, false, rfl, .ty _, (.base (.int v)), kit_ty (by decide +kernel), ?_⟩
          refine ⟨rfl, _, rfl, ?_⟩
          rw [decide_eq_true rfl]
          refine iteT ⟨_, rfl, _, rfl, rfl, ?_⟩
          rw [decide_eq_true rfl]
          exact kk _ s0
        | str v =>
          refine ⟨_, t, [.ty "list", .ty "tuple"], _, [.type "list", .type "tuple"], false, rfl, ht, .cons (.ty _) (.cons (.ty _) .nil), (.base (.str v)), kit2 (b := false) (c := false) (by decide +kernel) (by decide +kernel), ?_⟩
          refine ⟨_, rfl, iteF ?_⟩
          refine ⟨_, rfl, rfl, _, rfl, rfl, rfl, _, rfl, iteNS rfl ?_⟩
          refine ⟨_, rfl, _, _, _, _, false, rfl, .ty _, (.base (.str v)), kit_ty (by decide +kernel), ?_⟩
          refine ⟨_, rfl, _, _, _, _, false, rfl, .ty _, (.base (.str v)), kit_ty (by decide +kernel), ?_⟩
          refine ⟨rfl, _, rfl, iteNS rfl ?_⟩
          refine ⟨_, rfl, _, _, _, _, false, rfl, .ty _, (.base (.str v)), kit_ty (by decide +kernel), ?_⟩
          refine ⟨_, rfl, _, _, _, _, false, rfl, .ty _, (.base (.str v)), kit_ty (by decide +kernel), ?_⟩
          refine ⟨rfl, _, rfl, iteNS rfl ?_⟩
          refine ⟨_, rfl, _, _, _, _, true, rfl, .ty _, (.base (.str v)), kit_ty (by decide +kernel), ?_⟩
          refine ⟨_, rfl, _, _, _, _, true, rfl, .ty _, (.base (.str v)), kit_ty (by decide +kernel), ?_⟩
          refine ⟨rfl, _, rfl, ?_⟩
          rw [decide_eq_true rfl]
          refine iteT ⟨_, rfl, _, rfl, rfl, ?_⟩
          rw [decide_eq_true rfl]
          exact kk _ s0
        | byt v => cases hf
        | flt v => cases hf
        | ref v => cases hf
        | ty v => cases hf
      · rcases hab with ⟨h1, h2⟩ | ⟨h1, h2⟩
        · refine ⟨_, t, [.ty "list", .ty "tuple"], _, [.type "list", .type "tuple"], true, rfl, ht, .cons (.ty _) (.cons (.ty _) .nil), .base (.lst h2), kit2 (b := true) (c := false) (by decide +kernel) (by decide +kernel), ?_⟩
          refine ⟨_, rfl, iteT ?_⟩
          refine ⟨_, rfl, _, _, _, _, true, rfl, .ty _, .base (.lst h1), kit_ty (by decide +kernel), ?_⟩
          refine ⟨_, rfl, _, _, _, _, true, rfl, .ty _, .base (.lst h2), kit_ty (by decide +kernel), ?_⟩
          refine ⟨rfl, _, rfl, iteNS rfl ?_⟩
          refine ⟨_, rfl, _, _, _, _, false, rfl, .ty _, .base (.lst h1), kit_ty (by decide +kernel), ?_⟩
          refine ⟨_, rfl, _, _, _, _, false, rfl, .ty _, .base (.lst h2), kit_ty (by decide +kernel), ?_⟩
          refine ⟨rfl, _, rfl, iteNS rfl ?_⟩
          refine ⟨_, rfl, a1, xs, rfl, .inl (SqL.of h1), _, rfl, a2, ys, rfl, .inl (SqL.of h2), rfl, _, rfl, ?_⟩
          rw [hl, decide_eq_true rfl]
          refine iteT ?_
          refine ⟨_, rfl, _, rfl, a1, a2, xs, ys, rfl, .inl ⟨SqL.of h1, SqL.of h2, fun D nD => ?_⟩⟩
          refine lc_it (walk_zip (xs := xs) (ys := ys) (n := xs.length) (by rw [hl]; simp)) (fun i H' => Same (upd H t (.tup [.ty "list", .ty "tuple"])) H' ∧ H' D = some (.lst ((List.replicate i true).map V.bl)))
            ⟨same_upd nD, upd_same⟩ (fun i H' _ ⟨s1, _⟩ => ⟨SqL.of (s1 _ _ h1), SqL.of (s1 _ _ h2)⟩) ?_ ?_
          · rintro i x H' H2 hi1 ⟨s1, hD⟩ ⟨T2, x', y', rfl, hT, rfl, f1, f2⟩
            have s2 := same_upd (o := .tup [x', y']) hT
            refine ⟨T2, [x', y'], rfl, .inl (.inl upd_same), rfl, x', [y'], rfl, y', [], rfl, rfl, rfl, ?_⟩
            refine ⟨_, rfl, _, rfl, x', y', rfl, (hi i x' y' f1 f2).same (s1.trans s2), fun H3 s3 => ?_⟩
            refine ⟨_, s3 _ _ (s2 _ _ hD), ?_, ?_, ?_⟩
            · rw [List.length_map, List.length_replicate]; exact small1000 (by omega)
            · intro b o e
              rw [upd_ne (ne_of_none e nD)]
              exact s3 _ _ (s2 _ _ (s1 _ _ e))
            · rw [upd_same, List.replicate_succ', List.map_append]
              rfl
          · rintro H' ⟨s1, hD⟩
            refine ⟨D, List.replicate xs.length true, rfl, .inl (.inl hD), ?_⟩
            have e : (List.replicate xs.length true).all id = true := by simp
            rw [e]
            exact kk _ (s0.trans s1)
        · refine ⟨_, t, [.ty "list", .ty "tuple"], _, [.type "list", .type "tuple"], true, rfl, ht, .cons (.ty _) (.cons (.ty _) .nil), .base (.tup h2), kit2 (b := false) (c := true) (by decide +kernel) (by decide +kernel), ?_⟩
          refine ⟨_, rfl, iteT ?_⟩
          refine ⟨_, rfl, _, _, _, _, false, rfl, .ty _, .base (.tup h1), kit_ty (by decide +kernel), ?_⟩
          refine ⟨_, rfl, _, _, _, _, false, rfl, .ty _, .base (.tup h2), kit_ty (by decide +kernel), ?_⟩
          refine ⟨rfl, _, rfl, iteNS rfl ?_⟩
          refine ⟨_, rfl, _, _, _, _, true, rfl, .ty _, .base (.tup h1), kit_ty (by decide +kernel), ?_⟩
          refine ⟨_, rfl, _, _, _, _, true, rfl, .ty _, .base (.tup h2), kit_ty (by decide +kernel), ?_⟩
          refine ⟨rfl, _, rfl, iteNS rfl ?_⟩
          refine ⟨_, rfl, a1, xs, rfl, .inr (SqT.of h1), _, rfl, a2, ys, rfl, .inr (SqT.of h2), rfl, _, rfl, ?_⟩
          rw [hl, decide_eq_true rfl]
          refine iteT ?_
          refine ⟨_, rfl, _, rfl, a1, a2, xs, ys, rfl, .inr ⟨SqT.of h1, SqT.of h2, fun D nD => ?_⟩⟩
          refine lc_it (walk_zipTT (xs := xs) (ys := ys) (n := xs.length) (by rw [hl]; simp)) (fun i H' => Same (upd H t (.tup [.ty "list", .ty "tuple"])) H' ∧ H' D = some (.lst ((List.replicate i true).map V.bl)))
            ⟨same_upd nD, upd_same⟩ (fun i H' _ ⟨s1, _⟩ => ⟨SqT.of (s1 _ _ h1), SqT.of (s1 _ _ h2)⟩) ?_ ?_
          · rintro i x H' H2 hi1 ⟨s1, hD⟩ ⟨T2, x', y', rfl, hT, rfl, f1, f2⟩
            have s2 := same_upd (o := .tup [x', y']) hT
            refine ⟨T2, [x', y'], rfl, .inl (.inl upd_same), rfl, x', [y'], rfl, y', [], rfl, rfl, rfl, ?_⟩
            refine ⟨_, rfl, _, rfl, x', y', rfl, (hi i x' y' f1 f2).same (s1.trans s2), fun H3 s3 => ?_⟩
            refine ⟨_, s3 _ _ (s2 _ _ hD), ?_, ?_, ?_⟩
            · rw [List.length_map, List.length_replicate]; exact small1000 (by omega)
            · intro b o e
              rw [upd_ne (ne_of_none e nD)]
              exact s3 _ _ (s2 _ _ (s1 _ _ e))
            · rw [upd_same, List.replicate_succ', List.map_append]
              rfl
          · rintro H' ⟨s1, hD⟩
            refine ⟨D, List.replicate xs.length true, rfl, .inl (.inl hD), ?_⟩
            have e : (List.replicate xs.length true).all id = true := by simp
            rw [e]
            exact kk _ (s0.trans s1)
end
end K

namespace K
open PySem PySem.Spec PyProof.Rows L2
open Sw (T3 Dist at? relax roundOf rounds)
abbrev sCheck : Stmt := top 5
section
variable {P : Program} {w : World} {K : PySem.W.Frag} {mg : Str → Option Value} {base : Heap}
theorem scCheck : FnScope ["many", "house"] ["many", "house"] (defScope sCheck) := ⟨rfl, rfl, rfl, by decide +kernel, rfl, by decide +kernel, by decide +kernel⟩
theorem ok_check {f : Addr} {fd : FuncData} {k : Nat} (F : Fun K "check_house" "check_house" sCheck f fd) : FnOk P w K mg base CX0 (k + 1) f fd ["many", "house"] spCheck := by
  refine F.ok scCheck (fun vs H Q E h => ?_) (fun cdv A outer s H vs Q E hr h => ?_)
  · obtain ⟨n, g, rfl, _⟩ := h
    rfl
  · obtain ⟨n, g, rfl, hg, q⟩ := h
    refine ⟨_, pss_one (ps_if (PW.pt (pw_or (pt_cmpR op_lt (pv 1) pe_int (nomark _)) (pw_or1 (pt_cmpR op_ge (pv 1) (pv 0) (nomark _))))) (pss_one ps_never) pss_nil), ?_⟩
    refine ⟨_, rfl, _, _, rfl, rfl, _, rfl, ?_⟩
    rw [decide_eq_false (show ¬ ((g : Int) < 0) by omega)]
    refine iteF ?_
    refine ⟨_, rfl, _, rfl, _, _, rfl, rfl, _, rfl, ?_⟩
    rw [decide_eq_false (show ¬ ((n : Int) ≤ (g : Int)) by omega)]
    exact iteF q
end
end K

namespace K
open PySem PySem.Spec PyProof.Rows L2
open Sw (T3 Dist at? relax roundOf rounds)
abbrev sCheap : Stmt := top 7
abbrev sFar : Stmt := top 8
section
variable {P : Program} {w : World} {K : PySem.W.Frag} {mg : Str → Option Value} {base : Heap}
theorem scCheap : FnScope ["prices", "house", "near", "price", "total"] ["prices", "house", "near", "price"] (defScope sCheap) := ⟨rfl, rfl, rfl, by decide +kernel, rfl, by decide +kernel, by decide +kernel⟩
theorem ok_cheap {f : Addr} {fd : FuncData} {k : Nat} (F : Fun K "cheapen" "cheapen" sCheap f fd) : FnOk P w K mg base CX0 (k + 1) f fd ["prices", "house", "near", "price"] spCheap := by
  refine F.ok scCheap (fun vs H Q E h => ?_) (fun cdv A outer s H vs Q E hr h => ?_)
  · obtain ⟨p, d, a, b, c, rfl, _⟩ := h
    rfl
  · obtain ⟨p, d, a, b, c, rfl, hp, ha, hb, kk⟩ := h
    refine ⟨_, pss_cons (ps_if (pt_cmpR op_isN (pe_ix ix_list (pv 0) (pv 2) (fun _ _ => rfl)) pe_non (nomark _)) (pss_one ps_retN) pss_nil)
      (pss_cons (ps_set (i := 4) scCheap.nd rfl (.inl rfl) (pe_op op_add (pe_ix ix_list (pv 0) (pv 2) (fun _ _ => rfl)) (pv 3)))
      (pss_one (ps_if (PW.pt (pw_or (pt_cmpR op_isN (pe_ix ix_list (pv 0) (pv 1) (fun _ _ => rfl)) pe_non (nomark _)) (pw_or1 (pt_cmpR op_lt (pv 4) (pe_ix ix_list (pv 0) (pv 1) (fun _ _ => rfl)) (nomark _)))))
        (pss_one (ps_asg (pv 4) (pg_sub (pv 0) (pv 1) set_list))) pss_nil))), ?_⟩
    have hA := atI_nat (at_of ha)
    have hB := atI_nat (at_of hb)
    refine ⟨_, rfl, _, rfl, p, _, _, _, rfl, rfl, SqL.of hp, hB, rfl, _, rfl, ?_⟩
    cases eb : at? d b with
    | none =>
      refine iteT ?_
      refine kk H ?_ (But.refl p H)
      unfold relax
      simp only [eb]
      exact hp
    | some y =>
      refine iteF ?_
      rw [eb] at hB
      refine ⟨_, rfl, _, rfl, p, _, _, _, rfl, rfl, SqL.of hp, hB, _, rfl, _, _, rfl, rfl, ?_⟩
      refine ⟨_, rfl, _, rfl, p, _, _, _, rfl, rfl, SqL.of hp, hA, rfl, _, rfl, ?_⟩
      have put : ∀ z : Nat, (z : Int) = (y : Int) + (c : Int) → upd H p (.lst ((d.map ov).set a (.int ((y : Int) + (c : Int))))) p = some (.lst ((d.set a (some z)).map ov)) := fun z hz => by
        rw [upd_same, ← set_ov, ← hz]
        rfl
      cases ea : at? d a with
      | none =>
        refine iteT ?_
        refine ⟨_, rfl, _, rfl, _, rfl, p, _, _, a, rfl, rfl, hp, ?_, ?_⟩
        · rw [List.length_map]; exact ixN_nat ha
        · refine kk _ ?_ But.put
          unfold relax
          simp only [eb, ea]
          exact put (y + c) (by omega)
      | some x =>
        refine iteF ?_
        rw [ea] at hA
        refine ⟨_, rfl, _, rfl, _, rfl, p, _, _, _, rfl, rfl, SqL.of hp, hA, _, _, rfl, rfl, _, rfl, ?_⟩
        refine ite2 (fun l => ?_) (fun l => ?_)
        · have l := of_decide_eq_true l
          refine ⟨_, rfl, _, rfl, _, rfl, p, _, _, a, rfl, rfl, hp, ?_, ?_⟩
          · rw [List.length_map]; exact ixN_nat ha
          · refine kk _ ?_ But.put
            unfold relax
            simp only [eb, ea]
            rw [if_pos (by omega)]
            exact put (y + c) (by omega)
        · have l : ¬ ((y : Int) + (c : Int) < (x : Int)) := fun q => l (decide_eq_true q)
          refine kk H ?_ (But.refl p H)
          unfold relax
          simp only [eb, ea]
          rw [if_neg (by omega)]
          exact hp
theorem scFar : FnScope ["many", "ties", "goal", "prices", "turn", "one", "other", "price"] ["many", "ties", "goal"] (defScope sFar) := ⟨rfl, rfl, rfl, by decide +kernel, rfl, by decide +kernel, by decide +kernel⟩
theorem ok_far {f fC fH : Addr} {fd fdC fdH : FuncData} {k : Nat} (F : Fun K "far" "far" sFar f fd) (FC : Fun K "check_house" "check_house" sCheck fC fdC) (FH : Fun K "cheapen" "cheapen" sCheap fH fdH)
    (gC : mg "check_house" = some (.ref fC)) (gH : mg "cheapen" = some (.ref fH)) (mr : mg "range" = none) (bC : Binds K fdC ["many", "house"] []) (bH : Binds K fdH ["prices", "house", "near", "price"] []) : FnOk P w K mg base CX0 (k + 2) f fd ["many", "ties", "goal"] spFar := by
  have GC : FnOk P w K mg base CX0 (k + 1) fC fdC ["many", "house"] spCheck := ok_check FC
  have GH : FnOk P w K mg base CX0 (k + 1) fH fdH ["prices", "house", "near", "price"] spCheap := ok_cheap FH
  refine F.ok scFar (fun vs H Q E h => ?_) (fun cdv A outer s H vs Q E hr h => ?_)
  · obtain ⟨n, g, t, ts, rfl, _⟩ := h
    rfl
  · obtain ⟨n, g, t, ts, rfl, hg, hn, hT, hF, kk⟩ := h
    refine ⟨_, pss_cons (ps_expr (pe_call GC hr (by rfl) gC FC.kp bC .nil pass0 (pa_cons (pv 0) (pa_cons (pv 2) pa_nil))))
      (pss_cons (ps_set (i := 3) scFar.nd rfl (.inl rfl) (pe_op op_rep (pe_lst (pa_cons pe_non pa_nil)) (pv 0)))
      (pss_cons (ps_asg pe_int (pg_sub (pv 3) (pv 2) set_list))
      (pss_cons (ps_for PassesOwn.never rfl (pi_range1 rfl mr (pa_cons (pv 0) pa_nil)) (pg_name (i := 4) scFar.nd rfl (Or.inl rfl))
        (pss_one (ps_for PassesOwn.never rfl (pi_list (pv 1)) (pg_tup rfl (pgs_cons (pg_name (i := 5) scFar.nd rfl (Or.inl rfl)) (pgs_cons (pg_name (i := 6) scFar.nd rfl (Or.inl rfl)) (pgs_cons (pg_name (i := 7) scFar.nd rfl (Or.inl rfl)) pgs_nil))))
          (pss_cons (ps_expr (pe_call GH hr (by rfl) gH FH.kp bH .nil pass0 (pa_cons (pv 3) (pa_cons (pv 5) (pa_cons (pv 6) (pa_cons (pv 7) pa_nil))))))
          (pss_one (ps_expr (pe_call GH hr (by rfl) gH FH.kp bH .nil pass0 (pa_cons (pv 3) (pa_cons (pv 6) (pa_cons (pv 5) (pa_cons (pv 7) pa_nil))))))))))) 
      (pss_one (ps_ret (pv 3)))))), ?_⟩
    refine ⟨_, rfl, _, rfl, n, g, rfl, hg, ?_⟩
    -- [None] * many
    refine ⟨(by show 1 ≤ sizeLine; decide), fun l nl => ?_⟩
    have s1 : Same H (upd H l (.lst [.non])) := same_upd nl
    refine ⟨_, rfl, l, n, _, rfl, rfl, upd_same, by omega, by omega, ?_, fun p np => ?_⟩
    · rw [Int.toNat_natCast]
      exact Nat.le_of_lt (small1000 (by show 1 * n ≤ 1000; omega))
    rw [Int.toNat_natCast, rep_non]
    have np0 : H p = none := s1.free np
    -- prices[goal] = 0
    refine ⟨_, rfl, _, rfl, p, _, _, g, rfl, rfl, upd_same, ?_, ?_⟩
    · rw [List.length_map, List.length_replicate]; exact ixN_nat hg
    have e0 : ((List.replicate n (none : Option Nat)).map ov).set g (.int 0) = (Sw.start n g).map ov := by
      unfold Sw.start
      rw [← set_ov]
      rfl
    rw [e0]
    -- the rounds
    refine ⟨_, rfl, n, rfl, by omega, by omega, for_range (n := n) (fun i σ H' => ∃ y4 y5 y6 y7, σ = [some (.int (n : Nat)), some (.ref t), some (.int (g : Nat)), some (.ref p), y4, y5, y6, y7] ∧ Same H H' ∧ DistAt H' p (rounds (both ts) i (Sw.start n g)))
      ⟨none, none, none, none, rfl, fun b o e => ?_, upd_same⟩ ?_ ?_⟩
    · rw [upd_ne (ne_of_none e np0), upd_ne (ne_of_none e np0)]
      exact s1 _ _ e
    · rintro i σ H' hi ⟨y4, y5, y6, y7, rfl, sm, hd⟩
      obtain ⟨as, ht, hp⟩ := hT
      have hlen := paired_len hp
      refine ⟨_, rfl, t, rfl, ⟨_, SqL.of (sm _ _ ht)⟩, for_list (K := K) (a := t) (xs := as.map V.ref) (fun j σ H2 => ∃ z5 z6 z7, σ = [some (.int (n : Nat)), some (.ref t), some (.int (g : Nat)), some (.ref p), some (.int (0 + (i : Int))), z5, z6, z7] ∧ Same H H2 ∧ DistAt H2 p (roundOf (both (ts.take j)) (rounds (both ts) i (Sw.start n g))))
        ⟨y5, y6, y7, rfl, sm, hd⟩ (fun j σ H2 _ ⟨_, _, _, _, s2, _⟩ => SqL.of (s2 _ _ ht)) ?_ ?_⟩
      · rintro j y σ H2 hj ⟨z5, z6, z7, rfl, s2, h2⟩
        obtain ⟨a, ea, rfl⟩ := map_ref_at hj
        obtain ⟨e, ee, he⟩ := paired_at hp j a ea
        obtain ⟨e1, e2, e3⟩ := e
        have hb := hF _ (List.mem_of_getElem? ee)
        have hdl : ∀ L, (roundOf L (rounds (both ts) i (Sw.start n g))).length = n := fun L => by rw [Sw.round_len, Sw.rounds_len]; simp [Sw.start]
        refine ⟨a, tv (e1, e2, e3), rfl, SqT.of (s2 _ _ he), rfl, _, _, rfl, _, _, rfl, _, _, rfl, rfl, ?_⟩
        refine ⟨_, rfl, _, rfl, _, rfl, _, rfl, p, _, e1, e2, e3, rfl, h2, by rw [hdl]; exact hb.1, by rw [hdl]; exact hb.2, fun H3 h3 b3 => ?_⟩
        refine ⟨_, rfl, _, rfl, _, rfl, _, rfl, p, _, e2, e1, e3, rfl, h3, by rw [Sw.relax_len, hdl]; exact hb.2, by rw [Sw.relax_len, hdl]; exact hb.1, fun H4 h4 b4 => ?_⟩
        refine ⟨_, _, _, rfl, fun b o q => b4 _ _ (b3 _ _ (s2 _ _ q) (ne_of_none q np0)) (ne_of_none q np0), ?_⟩
        rw [take_succ_of ee, both_snoc, roundOf_append]
        exact h4
      · rintro σ H2 ⟨z5, z6, z7, rfl, s2, h2⟩
        refine ⟨_, _, _, _, rfl, s2, ?_⟩
        rw [Sw.rounds_succ]
        rw [List.length_map, hlen, List.take_length] at h2
        exact h2
    · rintro σ H' ⟨y4, y5, y6, y7, rfl, sm, hd⟩
      exact ⟨_, rfl, kk p H' np0 sm hd⟩
end
end K

namespace K
open PySem PySem.Spec PyProof.Rows L2
open Sw (T3 Dist at? relax roundOf rounds)
abbrev sPairs : Stmt := top 17
section
variable {P : Program} {w : World} {K : PySem.W.Frag} {mg : Str → Option Value} {base : Heap}
theorem scPairs : FnScope ["_law_many", "_law_one", "_law_other"] ["_law_many"] (defScope sPairs) := ⟨rfl, rfl, rfl, by decide +kernel, rfl, by decide +kernel, by decide +kernel⟩
def scIn : Scope := { kind := .function, names := [(".0", .local), ("_law_one", .cell), ("range", .globalImplicit), ("_law_many", .cell)], isGenerator := false, isCoroutine := false }
theorem ok_pairs {f : Addr} {fd : FuncData} {k : Nat} (F : Fun K "_law_pairs" "_law_pairs" sPairs f fd) (msum : mg "sum" = none) (mr : mg "range" = none) : FnOk P w K mg base CX0 (k + 1) f fd ["_law_many"] spPairs := by
  refine F.ok scPairs (fun vs H Q E h => ?_) (fun cdv A outer s H vs Q E hr h => ?_)
  · obtain ⟨n, rfl, _⟩ := h
    rfl
  · obtain ⟨n, rfl, h0, h8, kk⟩ := h
    refine ⟨_, pss_one (ps_ret (pe_callB (cr_sumL rfl) (by rfl) msum (by decide +kernel) (pa_cons
      (pe_lc (own := [("_law_one", 1)]) (g := gName 1) (tt := tYes) rfl scPairs.nd (pi_range1 rfl mr (pa_cons (pv 0) pa_nil)) (blkOk_by (own := [("_law_one", 1)]) (N := ["_law_many", "_law_one", "_law_other"]) (sc := defScope sPairs) (by decide +kernel))
        (fun _ _ _ _ _ => by exact (pg_name (i := 1) scPairs.nd rfl (Or.inr rfl))) (fun _ _ _ _ _ => pts_nil)
        (fun _ _ _ _ _ => pe_lc (own := [("_law_other", 2)]) (g := gName 2) (tt := tYes) rfl scPairs.nd (by exact (pi_range2 (by rfl) mr (pa_cons (pe_op op_add (pv 1) pe_int) (pa_cons (pv 0) pa_nil)))) (blkOk_by (own := [("_law_other", 2)]) (N := ["_law_many", "_law_one", "_law_other"]) (sc := scIn) (by decide +kernel))
          (fun _ _ _ _ _ => by exact (pg_name (i := 2) scPairs.nd rfl (Or.inl rfl))) (fun _ _ _ _ _ => pts_nil)
          (fun _ _ _ _ _ => by exact (pe_tup (pa_cons (pv 1) (pa_cons (pv 2) pa_nil)))))) (pa_cons (pe_lst pa_nil) pa_nil)))), ?_⟩
    refine ⟨_, rfl, n, rfl, by omega, by omega, fun D nD => ?_⟩
    refine lc_range (lo := 0) (n := n) (fun i H' => Same H H' ∧ ∃ (ls : List Addr) (xss : List (List V)), H' D = some (.lst (ls.map V.ref)) ∧ ls.length = i ∧ Paired (fun l xs => l ≠ D ∧ H' l = some (.lst xs)) ls xss ∧ ∀ xs ∈ xss, PairsV H' n xs ∧ xs.length ≤ n)
      ⟨same_upd nD, [], [], upd_same, rfl, .nil, fun xs m => by cases m⟩ ?_ ?_
    · rintro i H1 hi ⟨s1, ls, xss, hD, hl, hp, hx⟩
      refine ⟨rfl, ?_⟩
      refine ⟨_, rfl, _, _, rfl, rfl, _, rfl, _, _, rfl, ⟨by omega, by omega, by omega, by omega⟩, fun D2 nD2 => ?_⟩
      have nDD : D ≠ D2 := ne_of_none hD nD2
      refine lc_range (fun j H2 => Same H1 H2 ∧ ∃ xs, H2 D2 = some (.lst xs) ∧ xs.length = j ∧ PairsV H2 n xs) ⟨same_upd nD2, [], upd_same, rfl, PairsV.nil⟩ ?_ ?_
      · rintro j H2 hj ⟨s2, xs, hD2, hxl, hxs⟩
        refine ⟨rfl, ?_⟩
        refine ⟨_, rfl, _, rfl, (by show 2 ≤ sizeLine; decide), fun t nt => ?_⟩
        have s3 := same_upd (o := .tup [.int (0 + (i : Int)), .int (0 + (i : Int) + 1 + (j : Int))]) nt
        have ntD : t ≠ D2 := Ne.symm (ne_of_none hD2 nt)
        refine ⟨xs, s3 _ _ hD2, by rw [hxl]; exact small1000 (by omega), fun b o e => ?_, xs ++ [.ref t], upd_same, by rw [List.length_append, hxl]; rfl, ?_⟩
        · rw [upd_ne (ne_of_none e nD2)]
          exact s3 _ _ (s2 _ _ e)
        · have keep : ∀ a ys, H2 a = some (.tup ys) → (upd (upd H2 t (.tup [.int (0 + (i : Int)), .int (0 + (i : Int) + 1 + (j : Int))])) D2 (.lst (xs ++ [.ref t]))) a = some (.tup ys) := fun a ys e => by
            rw [upd_ne (ne_of e hD2 (fun z => by cases z))]
            exact s3 _ _ e
          refine (hxs.at keep).append (PairsV.one (i := i) (j := i + 1 + j) ?_ (by omega) (by omega))
          rw [upd_ne ntD, upd_same]
          have e1 : (0 + (i : Int)) = ((i : Nat) : Int) := by omega
          have e2 : (0 + (i : Int) + 1 + (j : Int)) = ((i + 1 + j : Nat) : Int) := by omega
          rw [e2, e1]
      · rintro H2 ⟨s2, xs, hD2, hxl, hxs⟩
        refine ⟨_, s2 _ _ hD, by rw [List.length_map, hl]; exact small1000 (by omega), fun b o e => ?_, ls ++ [D2], xss ++ [xs], ?_, by rw [List.length_append, hl]; rfl, ?_, fun ys m => ?_⟩
        · rw [upd_ne (ne_of_none e nD)]
          exact s2 _ _ (s1 _ _ e)
        · rw [upd_same, List.map_append] <;> rfl
        · refine paired_append (paired_mono (fun l zs q => ⟨q.1, by rw [upd_ne q.1]; exact s2 _ _ q.2⟩) hp) (.cons ⟨Ne.symm nDD, ?_⟩ .nil)
          rw [upd_ne (Ne.symm nDD)]
          exact hD2
        · have keep : ∀ a ys, H2 a = some (.tup ys) → (upd H2 D (.lst (ls.map V.ref ++ [.ref D2]))) a = some (.tup ys) := fun a ys e => by
            rw [upd_ne (ne_of e (s2 _ _ hD) (fun z => by cases z))]
            exact e
          rcases List.mem_append.mp m with q | q
          · exact ⟨((hx ys q).1.at fun a zs e => s2 _ _ e).at keep, (hx ys q).2⟩
          · simp at q
            subst q
            exact ⟨hxs.at keep, by rw [hxl]; omega⟩
    · rintro H1 ⟨s1, ls, xss, hD, hl, hp, hx⟩
      refine ⟨Nat.zero_le _, fun z nz => ?_⟩
      have s2 := same_upd (o := .lst []) nz
      have hxl : xss.length = n := by rw [← hl]; exact (paired_len hp).symm
      have hfl := flat_len (n := n) fun xs m => (hx xs m).2
      have hb : xss.length * n ≤ 8 * 8 := by rw [hxl]; exact Nat.mul_le_mul h8 h8
      refine ⟨D, z, ls, xss, [], rfl, s2 _ _ hD, upd_same, paired_mono (fun l xs q => s2 _ _ q.2) hp, fun e => by rw [e] at hl; simp at hl; omega, ?_, fun p np => ?_⟩
      · exact Nat.le_of_lt (small1000 (by show 0 + xss.flatten.length ≤ 1000; omega))
      · have s3 := same_upd (o := .lst ([] ++ xss.flatten)) np
        refine kk p _ xss.flatten (s1.free (s2.free np)) (s1.trans (s2.trans s3)) upd_same (PairsV.flat fun xs m => ((hx xs m).1.at fun a ys e => s2 _ _ e).at fun a ys e => s3 _ _ e) (by omega)
end
end K

namespace K
open PySem PySem.Spec PyProof.Rows L2
open Sw (T3 Dist at? relax roundOf rounds)
abbrev sShuf : Stmt := top 18
section
variable {P : Program} {w : World} {K : PySem.W.Frag} {mg : Str → Option Value} {base : Heap}
theorem scShuf : FnScope ["_law_box_here", "_law_some", "_law_found", "_law_one"] ["_law_box_here", "_law_some"] (defScope sShuf) := ⟨rfl, rfl, rfl, by decide +kernel, rfl, by decide +kernel, by decide +kernel⟩
theorem perm_put {α : Type} (ys : List α) (k : Nat) (y : α) : (ys.take k ++ [y] ++ ys.drop k).Perm (ys ++ [y]) := by
  have h1 : (ys.take k ++ [y] ++ ys.drop k).Perm (ys.take k ++ (ys.drop k ++ [y])) := by
    rw [List.append_assoc]
    exact List.Perm.append_left _ List.perm_append_comm
  rw [← List.append_assoc, List.take_append_drop] at h1
  exact h1
theorem ok_shuf {f fT : Addr} {fd fdT : FuncData} {k : Nat} (F : Fun K "_law_shuffled" "_law_shuffled" sShuf f fd) (FT : Fun K "_law_take" "_law_take" sTake fT fdT) (gT : mg "_law_take" = some (.ref fT)) (bT : Binds K fdT ["_law_box_here", "_law_sides"] []) (mlen : mg "len" = none) :
    FnOk P w K mg base CX0 (k + 2) f fd ["_law_box_here", "_law_some"] spShuf := by
  have GT : FnOk P w K mg base CX0 (k + 1) fT fdT ["_law_box_here", "_law_sides"] spTake := ok_take FT mlen
  refine F.ok scShuf (fun vs H Q E h => ?_) (fun cdv A outer s H vs Q E hr h => ?_)
  · obtain ⟨p, q, t, xs, rfl, _⟩ := h
    rfl
  · obtain ⟨p, q, t, xs, rfl, hB, htp, ht, hlen, kk⟩ := h
    refine ⟨_, pss_cons (ps_set (i := 2) scShuf.nd rfl (.inl rfl) (pe_lst pa_nil))
      (pss_cons (ps_for PassesOwn.never rfl (pi_list (pv 1)) (pg_name (i := 3) scShuf.nd rfl (Or.inl rfl))
        (pss_one (ps_expr (pe_bm PySem.F.plainAttrs_list PySem.F.slot_list_insert PySem.F.type_list_insert mt_insert (pv 2)
          (pa_cons (pe_call GT hr (by rfl) gT FT.kp bT .nil pass0 (pa_cons (pv 0) (pa_cons (pe_op op_add (pe_callB call_len_seq (by rfl) mlen PySem.boot_len (pa_cons (pv 2) pa_nil)) pe_int) pa_nil))) (pa_cons (pv 3) pa_nil))))))
      (pss_one (ps_ret (pv 2)))), ?_⟩
    refine ⟨Nat.zero_le _, fun r nr => ?_⟩
    obtain ⟨op, ep⟩ := hB.p_some
    obtain ⟨oq, eq⟩ := hB.q_some
    have nrp : r ≠ p := Ne.symm (ne_of_none ep nr)
    have nrq : r ≠ q := Ne.symm (ne_of_none eq nr)
    have nrt : r ≠ t := Ne.symm (ne_of_none ht nr)
    have s1 := same_upd (o := .lst []) nr
    refine ⟨_, rfl, t, rfl, ⟨_, SqL.of (s1 _ _ ht)⟩, for_list (K := K) (a := t) (xs := xs) (fun i σ H' => ∃ y3 ys, σ = [some (.ref p), some (.ref t), some (.ref r), y3] ∧ BoxAt H' p q ∧ But p H H' ∧ H' r = some (.lst ys) ∧ ys.Perm (xs.take i))
      ⟨none, [], rfl, hB.same s1, But.of_same s1, upd_same, List.Perm.refl _⟩ (fun i σ H' _ ⟨_, _, _, _, b, _⟩ => SqL.of (b _ _ ht htp)) ?_ ?_⟩
    · rintro i y σ H' hi ⟨y3, ys, rfl, B1, b1, hr1, hperm⟩
      have hyl : ys.length ≤ 1000 := by rw [hperm.length_eq, List.length_take]; omega
      refine ⟨_, rfl, .inl ⟨rfl, _, SqL.of hr1⟩, _, rfl, _, rfl, r, _, rfl, .inl (SqL.of hr1), _, _, rfl, rfl, p, q, _, rfl, B1, by omega, by omega, fun z H2 hz0 hz1 B2 b2 => ?_⟩
      have hr2 := b2 _ _ hr1 nrp
      refine ⟨_, rfl, r, ys, z, y, rfl, rfl, hr2, small1000 hyl, hz0, by omega, ?_⟩
      refine ⟨_, _, rfl, B2.put nrp nrq, fun b o e hb => ?_, upd_same, ?_⟩
      · rw [upd_ne (ne_of_none e nr)]
        exact b2 _ _ (b1 _ _ e hb) hb
      · rw [take_succ_of hi]
        exact (perm_put ys z.toNat y).trans (hperm.append_right [y])
    · rintro σ H' ⟨y3, ys, rfl, B1, b1, hr1, hperm⟩
      rw [List.take_length] at hperm
      exact ⟨_, rfl, kk r H' ys nr B1 b1 hr1 hperm⟩
end
end K

namespace K
open PySem PySem.Spec PyProof.Rows L2
open Sw (T3 Dist at? relax roundOf rounds)
abbrev sSome : Stmt := top 19
section
variable {P : Program} {w : World} {K : PySem.W.Frag} {mg : Str → Option Value} {base : Heap}
theorem scSome : FnScope ["_law_box_here", "_law_many", "_law_odds", "_law_found", "_law_one", "_law_other"] ["_law_box_here", "_law_many", "_law_odds"] (defScope sSome) := ⟨rfl, rfl, rfl, by decide +kernel, rfl, by decide +kernel, by decide +kernel⟩
theorem ok_some {f fT fP : Addr} {fd fdT fdP : FuncData} {k : Nat} (F : Fun K "_law_some_ties" "_law_some_ties" sSome f fd) (FT : Fun K "_law_take" "_law_take" sTake fT fdT) (gT : mg "_law_take" = some (.ref fT)) (bT : Binds K fdT ["_law_box_here", "_law_sides"] [])
    (FP : Fun K "_law_pairs" "_law_pairs" sPairs fP fdP) (gP : mg "_law_pairs" = some (.ref fP)) (bP : Binds K fdP ["_law_many"] []) (mlen : mg "len" = none) (msum : mg "sum" = none) (mr : mg "range" = none) :
    FnOk P w K mg base CX0 (k + 2) f fd ["_law_box_here", "_law_many", "_law_odds"] spSome := by
  have GT : FnOk P w K mg base CX0 (k + 1) fT fdT ["_law_box_here", "_law_sides"] spTake := ok_take FT mlen
  have GP : FnOk P w K mg base CX0 (k + 1) fP fdP ["_law_many"] spPairs := ok_pairs FP msum mr
  refine F.ok scSome (fun vs H Q E h => ?_) (fun cdv A outer s H vs Q E hr h => ?_)
  · obtain ⟨p, q, n, o, rfl, _⟩ := h
    rfl
  · obtain ⟨p, q, n, o, rfl, hB, h0, h8, kk⟩ := h
    refine ⟨_, pss_cons (ps_set (i := 3) scSome.nd rfl (.inl rfl) (pe_lst pa_nil))
      (pss_cons (ps_for PassesOwn.never rfl (pi_list (pe_call GP hr (by rfl) gP FP.kp bP .nil pass0 (pa_cons (pv 1) pa_nil))) (pg_tup rfl (pgs_cons (pg_name (i := 4) scSome.nd rfl (Or.inl rfl)) (pgs_cons (pg_name (i := 5) scSome.nd rfl (Or.inl rfl)) pgs_nil)))
        (pss_one (ps_if (PW.pt (pw_and (pt_cmpR op_lt (pe_callB call_len_seq (by rfl) mlen PySem.boot_len (pa_cons (pv 3) pa_nil)) pe_int (nomark _))
            (pw_and1 (pt_cmpR op_lt (pe_call GT hr (by rfl) gT FT.kp bT .nil pass0 (pa_cons (pv 0) (pa_cons pe_int pa_nil))) (pv 2) (nomark _)))))
          (pss_one (ps_expr (pe_bm PySem.F.plainAttrs_list PySem.F.slot_list_append PySem.F.type_list_append mt_append (pv 3)
            (pa_cons (pe_tup (pa_cons (pv 4) (pa_cons (pv 5) (pa_cons (pe_op op_add pe_int (pe_call GT hr (by rfl) gT FT.kp bT .nil pass0 (pa_cons (pv 0)
              (pa_cons (pe_ix ix_list (pe_lst (pa_cons pe_int (pa_cons pe_int pa_nil))) (pe_call GT hr (by rfl) gT FT.kp bT .nil pass0 (pa_cons (pv 0) (pa_cons pe_int pa_nil))) (fun _ _ => rfl)) pa_nil)))) pa_nil)))) pa_nil)))) pss_nil)))
      (pss_one (ps_ret (pv 3)))), ?_⟩
    refine ⟨Nat.zero_le _, fun r nr => ?_⟩
    obtain ⟨op, ep⟩ := hB.p_some
    obtain ⟨oq, eq⟩ := hB.q_some
    have nrp : r ≠ p := Ne.symm (ne_of_none ep nr)
    have nrq : r ≠ q := Ne.symm (ne_of_none eq nr)
    have s1 := same_upd (o := .lst []) nr
    refine ⟨_, rfl, n, rfl, h0, h8, fun a H1 xs na s2 ha hx hxl => ?_⟩
    obtain ⟨as, ps, rfl, hp, hps⟩ := hx
    have nap : a ≠ p := Ne.symm (ne_of_none (s1 _ _ ep) na)
    have nar : a ≠ r := Ne.symm (ne_of_none upd_same na)
    -- tuples stand apart from the box and from the list that grows
    refine ⟨a, rfl, ⟨_, SqL.of ha⟩, for_list (K := K) (a := a) (xs := as.map V.ref) (fun i σ H' => ∃ y4 y5 ts, σ = [some (.ref p), some (.int (n : Nat)), some (.int o), some (.ref r), y4, y5] ∧ BoxAt H' p q ∧ But p H H' ∧
        (∀ b u, H1 b = some u → b ≠ p → b ≠ r → H' b = some u) ∧ TiesAt H' r ts ∧ Good n ts ∧ ts.length ≤ 14)
      ⟨none, none, [], rfl, (hB.same s1).same s2, (But.of_same s1).trans (But.of_same s2), fun b u e _ _ => e, ⟨[], s2 _ _ upd_same, .nil⟩, fun e m => (by cases m), Nat.zero_le _⟩
      (fun i σ H' _ ⟨_, _, _, _, _, _, b, _⟩ => SqL.of (b _ _ ha nap nar)) ?_ ?_⟩
    · rintro i y σ H' hi ⟨y4, y5, ts, rfl, B1, b1, c1, hT, hG, hL⟩
      obtain ⟨x, ex, rfl⟩ := map_ref_at hi
      obtain ⟨e, ee, he⟩ := paired_at hp i x ex
      obtain ⟨e1, e2⟩ := e
      have hb := hps _ (List.mem_of_getElem? ee)
      have nxp : x ≠ p := ne_of he (s2 _ _ (s1 _ _ ep)) (fun z => by obtain ⟨_, _, _, _, z1, _⟩ := hB; rw [ep] at z1; cases z1; cases z)
      have nxr : x ≠ r := ne_of he (s2 _ _ upd_same) (fun z => by cases z)
      refine ⟨x, _, rfl, SqT.of (c1 _ _ he nxp nxr), rfl, _, _, rfl, _, _, rfl, rfl, ?_⟩
      obtain ⟨bs, h1, h2⟩ := id hT
      have hbl : bs.length = ts.length := paired_len h2
      refine ⟨_, rfl, r, _, rfl, .inl (SqL.of h1), _, _, rfl, rfl, _, rfl, ?_⟩
      rw [List.length_map]
      refine ite2 (fun c => ?_) (fun c => ?_)
      · have c := of_decide_eq_true c
        refine ⟨_, rfl, p, q, 8, rfl, B1, by omega, by omega, fun z H2 hz0 hz1 B2 b2 => ?_⟩
        refine ⟨_, rfl, _, _, rfl, rfl, _, rfl, ?_⟩
        have T2 : ∀ {Ha Hb : Hp}, But p Ha Hb → BoxAt Ha p q → TiesAt Ha r ts → TiesAt Hb r ts := fun {Ha Hb} bb BB TT => by
          obtain ⟨bs, h1, h2⟩ := TT
          obtain ⟨_, _, _, _, z1, _⟩ := BB
          exact ⟨bs, bb _ _ h1 nrp, paired_mono (fun a e q => bb _ _ q (ne_of q z1 (fun z => by cases z))) h2⟩
        have hT2 := T2 b2 B1 hT
        refine ite2 (fun c2 => ?_) (fun c2 => ?_)
        · obtain ⟨bs2, h12, h22⟩ := id hT2
          refine ⟨_, rfl, .inl ⟨rfl, _, SqL.of h12⟩, _, rfl, _, rfl, _, rfl, (by show 2 ≤ sizeLine; decide), fun l nl => ?_⟩
          have s3 := same_upd (o := .lst [.int 2, .int 9]) nl
          refine ⟨_, rfl, p, q, 2, rfl, B2.same s3, by omega, by omega, fun z3 H3 hz30 hz31 B3 b3 => ?_⟩
          obtain ⟨op2, ep2⟩ := B2.p_some
          have nlp : l ≠ p := Ne.symm (ne_of_none ep2 nl)
          have hl3 : H3 l = some (.lst [.int 2, .int 9]) := b3 _ _ upd_same nlp
          have hT3 := T2 b3 (B2.same s3) (hT2.same s3)
          have hv : ∃ v : Int, (v = 2 ∨ v = 9) ∧ atI [V.int 2, V.int 9] z3 = some (.int v) := by
            have : z3 = 0 ∨ z3 = 1 := by omega
            rcases this with q | q
            · subst q; exact ⟨2, .inl rfl, rfl⟩
            · subst q; exact ⟨9, .inr rfl, rfl⟩
          obtain ⟨v, hv1, hv2⟩ := hv
          refine ⟨l, _, z3, _, rfl, rfl, SqL.of hl3, hv2, p, q, v, rfl, B3, by omega, by omega, fun z4 H4 hz40 hz41 B4 b4 => ?_⟩
          have hT4 := T2 b4 B3 hT3
          refine ⟨_, _, rfl, rfl, (by show 3 ≤ sizeLine; decide), fun t nt => ?_⟩
          have s5 := same_upd (o := .tup [.int (e1 : Nat), .int (e2 : Nat), .int (1 + z4)]) nt
          obtain ⟨bs4, h14, h24⟩ := id (hT4.same s5)
          have ntr : t ≠ r := by obtain ⟨_, z, _⟩ := hT4; exact Ne.symm (ne_of_none z nt)
          have hbl4 : bs4.length = ts.length := paired_len h24
          refine ⟨r, _, _, rfl, rfl, h14, by rw [List.length_map]; exact small1000 (by omega), ?_⟩
          refine ⟨_, _, ts ++ [(e1, e2, (1 + z4).toNat)], rfl, (B4.same s5).put nrp nrq, fun b u e hb => ?_, fun b u e hb hbr => ?_, ⟨bs4 ++ [t], ?_, paired_append (paired_mono (fun a e q => ?_) h24) (.cons ?_ .nil)⟩, fun e m => ?_, ?_⟩
          · rw [upd_ne (ne_of_none e nr)]
            exact s5 _ _ (b4 _ _ (b3 _ _ (s3 _ _ (b2 _ _ (b1 _ _ e hb) hb)) hb) hb)
          · rw [upd_ne hbr]
            exact s5 _ _ (b4 _ _ (b3 _ _ (s3 _ _ (b2 _ _ (c1 _ _ e hb hbr) hb)) hb) hb)
          · rw [upd_same, List.map_append] <;> rfl
          · rw [upd_ne (ne_of q h14 (fun z => by cases z))]
            exact q
          · rw [upd_ne ntr, upd_same]
            have : ((1 + z4).toNat : Int) = 1 + z4 := Int.toNat_of_nonneg (by omega)
            unfold tv
            rw [this]
          · rcases List.mem_append.mp m with q | q
            · exact hG e q
            · simp at q
              subst q
              exact ⟨hb.1, hb.2, show 1 ≤ (1 + z4).toNat by omega, show (1 + z4).toNat ≤ 9 by omega⟩
          · rw [List.length_append]
            show ts.length + 1 ≤ 14
            omega
        · exact ⟨_, _, ts, rfl, B2, b1.trans b2, fun b u e hb hbr => b2 _ _ (c1 _ _ e hb hbr) hb, hT2, hG, hL⟩
      · exact ⟨_, _, ts, rfl, B1, b1, c1, hT, hG, hL⟩
    · rintro σ H' ⟨y4, y5, ts, rfl, B1, b1, c1, hT, hG, hL⟩
      exact ⟨_, rfl, kk r H' ts nr B1 b1 hT hG hL⟩
end
end K

namespace K
open PySem PySem.Spec PyProof.Rows L2
open Sw (T3 Dist at? relax roundOf rounds IsNext Cand IsFar nbr candL)
abbrev sNbr : Stmt := top 6
section
variable {P : Program} {w : World} {K : PySem.W.Frag} {mg : Str → Option Value} {base : Heap}
theorem scNbr : FnScope ["ties", "house", "pairs", "one", "other", "price"] ["ties", "house"] (defScope sNbr) := ⟨rfl, rfl, rfl, by decide +kernel, rfl, by decide +kernel, by decide +kernel⟩
theorem ok_nbr {f : Addr} {fd : FuncData} {k : Nat} (F : Fun K "neighbours" "neighbours" sNbr f fd) : FnOk P w K mg base CX0 (k + 1) f fd ["ties", "house"] spNbr := by
  refine F.ok scNbr (fun vs H Q E h => ?_) (fun cdv A outer s H vs Q E hr h => ?_)
  · obtain ⟨t, ts, h, rfl, _⟩ := h
    rfl
  · obtain ⟨t, ts, h, rfl, hT, hl, kk⟩ := h
    refine ⟨_, (pss_cons (ps_set (i := 2) scNbr.nd rfl (.inl rfl) (pe_lst pa_nil))
      (pss_cons (ps_for PassesOwn.never rfl (pi_list (pv 0)) (pg_tup rfl (pgs_cons (pg_name (i := 3) scNbr.nd rfl (Or.inl rfl)) (pgs_cons (pg_name (i := 4) scNbr.nd rfl (Or.inl rfl)) (pgs_cons (pg_name (i := 5) scNbr.nd rfl (Or.inl rfl)) pgs_nil))))
        (pss_cons (ps_if (pt_cmpR op_eq (pv 3) (pv 1) (nomark _))
          (pss_one (ps_expr (pe_bm PySem.F.plainAttrs_list PySem.F.slot_list_append PySem.F.type_list_append mt_append (pv 2) (pa_cons (pe_tup (pa_cons (pv 4) (pa_cons (pv 5) pa_nil))) pa_nil))))
          pss_nil)
        (pss_one (ps_if (pt_cmpR op_eq (pv 4) (pv 1) (nomark _))
          (pss_one (ps_expr (pe_bm PySem.F.plainAttrs_list PySem.F.slot_list_append PySem.F.type_list_append mt_append (pv 2) (pa_cons (pe_tup (pa_cons (pv 3) (pa_cons (pv 5) pa_nil))) pa_nil))))
          pss_nil))))
      (pss_one (ps_ret (pv 2))))), ?_⟩
    refine ⟨Nat.zero_le _, fun r nr => ?_⟩
    have s1 := same_upd (o := .lst []) nr
    obtain ⟨as, ht, hp⟩ := id hT
    have hlen := paired_len hp
    refine ⟨_, rfl, t, rfl, ⟨_, SqL.of (s1 _ _ ht)⟩, for_list (K := K) (a := t) (xs := as.map V.ref) (fun i σ H' => ∃ y3 y4 y5, σ = [some (.ref t), some (.int (h : Nat)), some (.ref r), y3, y4, y5] ∧ Same H H' ∧ NbrAt H' r (nbr (ts.take i) h))
      ⟨none, none, none, rfl, s1, ⟨[], upd_same, .nil⟩⟩ (fun i σ H' _ ⟨_, _, _, _, b, _⟩ => SqL.of (b _ _ ht)) ?_ ?_⟩
    · rintro i y σ H1 hi ⟨y3, y4, y5, rfl, s2, hN⟩
      obtain ⟨a, ea, rfl⟩ := map_ref_at hi
      obtain ⟨e, ee, he⟩ := paired_at hp i a ea
      obtain ⟨e1, e2, e3⟩ := e
      have hil : i < ts.length := (List.getElem?_eq_some_iff.mp ee).1
      have grow : ∀ {H2 : Hp} {L : List (Nat × Nat)} {u c : Nat}, Same H H2 → NbrAt H2 r L → L.length ≤ 999 → ∀ (D : Hp → Prop), (∀ H3, Same H H3 → NbrAt H3 r (L ++ [(u, c)]) → D H3) →
          ∃ bs : List Addr, H2 r = some (.lst (bs.map V.ref)) ∧ bs.length = L.length ∧ ∀ p, H2 p = none → (upd H2 p (.tup [.int (u : Nat), .int (c : Nat)])) r = some (.lst (bs.map V.ref)) ∧ D (upd (upd H2 p (.tup [.int (u : Nat), .int (c : Nat)])) r (.lst (bs.map V.ref ++ [.ref p]))) := by
        intro H2 L u c sH hL hz D hD
        obtain ⟨bs, h1, h2⟩ := hL
        refine ⟨bs, h1, paired_len h2, fun p np => ?_⟩
        have s3 := same_upd (o := .tup [.int (u : Nat), .int (c : Nat)]) np
        have npr : p ≠ r := Ne.symm (ne_of_none h1 np)
        refine ⟨s3 _ _ h1, hD _ (fun b o q => ?_) ⟨bs ++ [p], ?_, paired_append (paired_mono (fun a e q => ?_) h2) (.cons ?_ .nil)⟩⟩
        · rw [upd_ne (ne_of_none q nr)]
          exact s3 _ _ (sH _ _ q)
        · rw [upd_same, List.map_append]
          rfl
        · rw [upd_ne (ne_of q h1 (fun z => by cases z))]
          exact s3 _ _ q
        · rw [upd_ne npr]
          exact upd_same
      have hnl := Sw.nbr_len (ts.take i) h
      rw [List.length_take] at hnl
      refine ⟨a, tv (e1, e2, e3), rfl, SqT.of (s2 _ _ he), rfl, _, _, rfl, _, _, rfl, _, _, rfl, rfl, ?_⟩
      refine ⟨_, rfl, _, rfl, rfl, _, rfl, ?_⟩
      have step := Sw.nbr_snoc (ts.take i) (e1, e2, e3) h
      rw [← take_succ_of ee] at step
      -- the second half, from any row
      have half : ∀ {H2 : Hp} {L : List (Nat × Nat)}, Same H H2 → NbrAt H2 r L → L.length ≤ 999 → nbr (ts.take (i + 1)) h = L ++ (if e2 = h then [(e1, e3)] else []) → ∀ (D : Hp → Prop), (∀ H3, Same H H3 → NbrAt H3 r (nbr (ts.take (i + 1)) h) → D H3) →
          if decide (V.int (e2 : Nat) = V.int (h : Nat)) = true then ∃ bs : List Addr, H2 r = some (.lst (bs.map V.ref)) ∧ bs.length = L.length ∧ ∀ p, H2 p = none → (upd H2 p (.tup [.int (e1 : Nat), .int (e3 : Nat)])) r = some (.lst (bs.map V.ref)) ∧ D (upd (upd H2 p (.tup [.int (e1 : Nat), .int (e3 : Nat)])) r (.lst (bs.map V.ref ++ [.ref p]))) else D H2 := by
        intro H2 L sH hL hz hE D hD
        refine ite2 (fun c => ?_) (fun c => ?_)
        · have c := of_decide_eq_true c
          injection c with c
          refine grow sH hL hz D fun H3 s3 n3 => hD H3 s3 ?_
          rw [hE, if_pos (by omega)]
          exact n3
        · have c : ¬ e2 = h := fun q => c (by rw [q]; exact decide_eq_true rfl)
          refine hD H2 sH ?_
          rw [hE, if_neg c, List.append_nil]
          exact hL
      refine ite2 (fun c => ?_) (fun c => ?_)
      · have c := of_decide_eq_true c
        injection c with c
        have c : e1 = h := by omega
        rw [if_pos c] at step
        obtain ⟨bs, hb1, hb2, hb3⟩ := grow (u := e2) (c := e3) s2 hN (by omega) (fun H3 => Same H H3 ∧ NbrAt H3 r (nbr (ts.take i) h ++ [(e2, e3)])) fun H3 a b => ⟨a, b⟩
        refine ⟨_, rfl, .inl ⟨rfl, _, SqL.of hb1⟩, _, rfl, _, rfl, (by show 2 ≤ sizeLine; decide), fun p np => ?_⟩
        obtain ⟨hb4, s3, hN3⟩ := hb3 p np
        refine ⟨r, _, _, rfl, rfl, hb4, by rw [List.length_map]; exact small1000 (by omega), ?_⟩
        refine ⟨_, rfl, _, rfl, rfl, _, rfl, ?_⟩
        have hf := half s3 hN3 (by rw [List.length_append]; show _ + 1 ≤ 999; omega) (by rw [step, ← List.append_assoc]) (fun H3 => ∃ y3 y4 y5, [some (V.ref t), some (.int (h : Nat)), some (.ref r), some (.int (e1 : Nat)), some (.int (e2 : Nat)), some (.int (e3 : Nat))] = [some (V.ref t), some (.int (h : Nat)), some (.ref r), y3, y4, y5] ∧ Same H H3 ∧ NbrAt H3 r (nbr (ts.take (i + 1)) h)) fun H3 a b => ⟨_, _, _, rfl, a, b⟩
        refine ite2 (fun c2 => ?_) (fun c2 => ?_)
        · rw [if_pos c2] at hf
          obtain ⟨cs, hc1, hc2, hc3⟩ := hf
          refine ⟨_, rfl, .inl ⟨rfl, _, SqL.of hc1⟩, _, rfl, _, rfl, (by show 2 ≤ sizeLine; decide), fun p2 np2 => ?_⟩
          obtain ⟨hc4, hD⟩ := hc3 p2 np2
          exact ⟨r, _, _, rfl, rfl, hc4, by rw [List.length_map]; exact small1000 (by rw [hc2, List.length_append]; show _ + 1 ≤ 1000; omega), hD⟩
        · rw [if_neg c2] at hf
          exact hf
      · have c : ¬ e1 = h := fun q => c (by rw [q]; exact decide_eq_true rfl)
        rw [if_neg c, List.nil_append] at step
        refine ⟨_, rfl, _, rfl, rfl, _, rfl, ?_⟩
        have hf := half s2 hN (by omega) step (fun H3 => ∃ y3 y4 y5, [some (V.ref t), some (.int (h : Nat)), some (.ref r), some (.int (e1 : Nat)), some (.int (e2 : Nat)), some (.int (e3 : Nat))] = [some (V.ref t), some (.int (h : Nat)), some (.ref r), y3, y4, y5] ∧ Same H H3 ∧ NbrAt H3 r (nbr (ts.take (i + 1)) h)) fun H3 a b => ⟨_, _, _, rfl, a, b⟩
        refine ite2 (fun c2 => ?_) (fun c2 => ?_)
        · rw [if_pos c2] at hf
          obtain ⟨cs, hc1, hc2, hc3⟩ := hf
          refine ⟨_, rfl, .inl ⟨rfl, _, SqL.of hc1⟩, _, rfl, _, rfl, (by show 2 ≤ sizeLine; decide), fun p2 np2 => ?_⟩
          obtain ⟨hc4, hD⟩ := hc3 p2 np2
          exact ⟨r, _, _, rfl, rfl, hc4, by rw [List.length_map]; exact small1000 (by omega), hD⟩
        · rw [if_neg c2] at hf
          exact hf
    · rintro σ H1 ⟨y3, y4, y5, rfl, s2, hN⟩
      rw [List.length_map, hlen, List.take_length] at hN
      exact ⟨_, rfl, kk r H1 nr s2 hN⟩
end
end K

namespace K
open PySem PySem.Spec PyProof.Rows L2
open Sw (T3 Dist at? relax roundOf rounds IsNext Cand IsFar nbr candL)
abbrev sNextH : Stmt := top 9
abbrev sNexts : Stmt := top 10
section
variable {P : Program} {w : World} {K : PySem.W.Frag} {mg : Str → Option Value} {base : Heap}
theorem scNextH : FnScope ["prices", "ties", "goal", "house", "near", "price"] ["prices", "ties", "goal", "house"] (defScope sNextH) := ⟨rfl, rfl, rfl, by decide +kernel, rfl, by decide +kernel, by decide +kernel⟩
theorem min_cand {E : List T3} {d : Dist} {h : Nat} {L : List (Nat × Nat)} (hL : ∀ u c, (u, c) ∈ L ↔ (h, u, c) ∈ E) {m : Int} (hm : m ∈ (candL d h L).map (fun (u : Nat) => (u : Int))) (hl : ∀ y, y ∈ (candL d h L).map (fun (u : Nat) => (u : Int)) → m ≤ y) :
    ∃ u : Nat, m = (u : Int) ∧ Cand E d h u ∧ ∀ v, Cand E d h v → u ≤ v := by
  obtain ⟨u, hu, rfl⟩ := List.mem_map.mp hm
  refine ⟨u, rfl, (Sw.candL_mem hL u).mp hu, fun v hv => ?_⟩
  have := hl (v : Int) (List.mem_map.mpr ⟨v, (Sw.candL_mem hL v).mpr hv, rfl⟩)
  omega
theorem ok_nexth {f fN : Addr} {fd fdN : FuncData} {k : Nat} (F : Fun K "next_house" "next_house" sNextH f fd) (T : BT mg) (cneighbours : Cal P w K mg base (k + 1) "neighbours" fN fdN ["ties", "house"] spNbr) : FnOk P w K mg base CX0 (k + 2) f fd ["prices", "ties", "goal", "house"] spNextH := by
  refine F.ok scNextH (fun vs H Q E h => ?_) (fun cdv A outer s H vs Q E hr h => ?_)
  · obtain ⟨p, t, d, ts, n, g, h, rfl, _⟩ := h
    rfl
  · obtain ⟨p, t, d, ts, n, g, h, rfl, hp, hT, hl, hF, hI, hh, kk⟩ := h
    refine ⟨_, (pss_cons (ps_if (PW.pt (pw_or (pt_cmpR op_eq (pv 3) (pv 2) (nomark _)) (pw_or1 (pt_cmpR op_isN (pe_ix (r := rIxL K) ix_list (pv 0) (pv 3) (fun _ _ => rfl)) pe_non (nomark _)))))
        (pss_one (ps_ret pe_non))
        pss_nil)
      (pss_one (ps_ret (pe_callB (cr_min rfl) (by rfl) T.min (by decide +kernel) (pa_cons (pe_lc (own := [("near", 4), ("price", 5)]) (g := (gTup K 2 (gCons (gName 4) (gCons (gName 5) gNil)))) rfl scNextH.nd (by exact (pi_list (pe_call cneighbours.ok hr (by rfl) cneighbours.g cneighbours.kp cneighbours.b .nil pass0 (pa_cons (pv 1) (pa_cons (pv 3) pa_nil))))) (blkOk_by (own := [("near", 4), ("price", 5)]) (N := ["prices", "ties", "goal", "house", "near", "price"]) (sc := (defScope sNextH)) (by decide +kernel)) (fun _ _ _ _ _ => by exact (pg_tup rfl (pgs_cons (pg_name (i := 4) scNextH.nd rfl (Or.inl rfl)) (pgs_cons (pg_name (i := 5) scNextH.nd rfl (Or.inl rfl)) pgs_nil)))) (fun _ _ _ _ _ => by exact (pts_one (pt_cmpR op_eq (pe_op op_add (pe_ix (r := rIxL K) ix_list (pv 0) (pv 4) (fun _ _ => rfl)) (pv 5)) (pe_ix (r := rIxL K) ix_list (pv 0) (pv 3) (fun _ _ => rfl)) (nomark _)))) (fun _ _ _ _ _ => by exact (pv 4))) pa_nil))))), ?_⟩
    have hd := hI.len
    have hat := atI_nat (at_of (d := d) (v := h) (by omega))
    refine ⟨_, rfl, _, rfl, rfl, _, rfl, ?_⟩
    refine ite2 (fun c => ?_) (fun c => ?_)
    · have c := of_decide_eq_true c
      injection c with c
      exact kk none H (.inl (by omega)) (Same.refl H)
    · have c : h ≠ g := fun q => c (by rw [q]; exact decide_eq_true rfl)
      refine ⟨_, rfl, _, rfl, p, _, _, _, rfl, rfl, SqL.of hp, hat, rfl, _, rfl, ?_⟩
      cases eh : at? d h with
      | none =>
        refine iteT ?_
        exact kk none H (.inr eh) (Same.refl H)
      | some ch =>
        refine iteF ?_
        rw [eh] at hat
        have hL := nbr_both ts h
        have hh0 : at? d h ≠ none := by rw [eh]; exact fun z => by cases z
        refine ⟨_, rfl, _, rfl, t, ts, h, rfl, hT, hl, fun b H1 nb s1 hN => ?_⟩
        obtain ⟨bs, hb, hpb⟩ := hN
        have hbl := paired_len hpb
        have hnl := Sw.nbr_len ts h
        refine ⟨b, rfl, ⟨_, SqL.of hb⟩, fun D nD => ?_⟩
        refine lc_list (K := K) (a := b) (xs := bs.map V.ref) (fun i H' => Same H1 H' ∧ H' D = some (.lst ((candL d h ((nbr ts h).take i)).map fun u => V.int (u : Nat))))
          ⟨same_upd nD, upd_same⟩ (fun i H' _ ⟨s2, _⟩ => SqL.of (s2 _ _ hb)) ?_ ?_
        · rintro i y H2 hi ⟨s2, hD⟩
          obtain ⟨a, ea, rfl⟩ := map_ref_at hi
          obtain ⟨e, ee, he⟩ := paired_at hpb i a ea
          obtain ⟨u, c'⟩ := e
          have hmem := (hL u c').mp (List.mem_of_getElem? ee)
          obtain ⟨y, ey⟩ := Sw.near_some hI (both_sym ts) hmem hh0
          have hu : u < d.length := by rw [hd]; exact (both_lt hF _ hmem).2
          have hau := atI_nat (at_of hu)
          rw [ey] at hau
          have hp2 := s2 _ _ (s1 _ _ hp)
          refine ⟨a, [.int (u : Nat), .int (c' : Nat)], rfl, SqT.of (s2 _ _ he), rfl, _, _, rfl, _, _, rfl, rfl, rfl, ?_⟩
          refine ⟨_, rfl, _, rfl, p, _, _, _, rfl, rfl, SqL.of hp2, hau, _, rfl, _, _, rfl, rfl, _, rfl, _, rfl, p, _, _, _, rfl, rfl, SqL.of hp2, hat, rfl, _, rfl, ?_⟩
          have step := Sw.candL_snoc d h ((nbr ts h).take i) (u, c')
          rw [← take_succ_of ee] at step
          have hts : Sw.test d h (u, c') = decide (ch = y + c') := by
            unfold Sw.test
            simp only [ey, eh, Option.some.injEq]
          refine ite2 (fun c2 => ?_) (fun c2 => ?_)
          · have c2 := of_decide_eq_true c2
            injection c2 with c2
            have c2 : (y : Int) + (c' : Int) = (ch : Int) := c2
            rw [hts, if_pos (decide_eq_true (by omega))] at step
            refine ⟨_, rfl, _, hD, ?_, fun x o q => ?_, ?_⟩
            · rw [List.length_map]
              have h1 := Sw.candL_len d h ((nbr ts h).take i)
              rw [List.length_take] at h1
              exact small1000 (by omega)
            · rw [upd_ne (ne_of_none q nD)]
              exact s2 _ _ q
            · rw [upd_same, step, List.map_append]
              rfl
          · have c2 : ¬ (y : Int) + (c' : Int) = (ch : Int) := fun q => c2 (decide_eq_true (congrArg V.int q))
            rw [hts, if_neg (fun z => c2 (by have := of_decide_eq_true z; omega)), List.append_nil] at step
            exact ⟨s2, by rw [step]; exact hD⟩
        · rintro H2 ⟨s2, hD⟩
          rw [List.length_map, hbl, List.take_length] at hD
          refine ⟨D, (candL d h (nbr ts h)).map (fun (u : Nat) => (u : Int)), rfl, .inl (.inl (by rw [hD, List.map_map]; rfl)), ?_, fun m hm hmin => ?_⟩
          · obtain ⟨u, hu⟩ := Sw.cand_ex hI c eh
            rw [List.length_map]
            exact List.length_pos_of_mem ((Sw.candL_mem hL u).mpr hu)
          · obtain ⟨u, rfl, hu, hmin⟩ := min_cand hL hm hmin
            exact kk (some u) H2 ⟨c, hh0, hu, hmin⟩ (s1.trans s2)
theorem scNexts : FnScope ["many", "ties", "goal", "prices", "house"] ["many", "ties", "goal"] (defScope sNexts) := ⟨rfl, rfl, rfl, by decide +kernel, rfl, by decide +kernel, by decide +kernel⟩
theorem ok_nexts {f fN fF : Addr} {fd fdN fdF : FuncData} {k : Nat} (F : Fun K "nexts" "nexts" sNexts f fd) (T : BT mg) (cfar : Cal P w K mg base (k + 2) "far" fF fdF ["many", "ties", "goal"] spFar) (cnext_house : Cal P w K mg base (k + 2) "next_house" fN fdN ["prices", "ties", "goal", "house"] spNextH) :
    FnOk P w K mg base CX0 (k + 3) f fd ["many", "ties", "goal"] spNexts := by
  refine F.ok scNexts (fun vs H Q E h => ?_) (fun cdv A outer s H vs Q E hr h => ?_)
  · obtain ⟨n, g, t, ts, rfl, _⟩ := h
    rfl
  · obtain ⟨n, g, t, ts, rfl, hg, hn, hT, hl, hF, kk⟩ := h
    refine ⟨_, (pss_cons (ps_set (i := 3) scNexts.nd rfl (.inr rfl) (pe_call cfar.ok hr (by rfl) cfar.g cfar.kp cfar.b .nil pass0 (pa_cons (pv 0) (pa_cons (pv 1) (pa_cons (pv 2) pa_nil)))))
      (pss_one (ps_ret (pe_lc (own := [("house", 4)]) (g := (gName 4)) (tt := tYes) rfl scNexts.nd (by exact (pi_range1 (by rfl) T.range (pa_cons (pv 0) pa_nil))) (blkOk_by (own := [("house", 4)]) (N := ["many", "ties", "goal", "prices", "house"]) (sc := (defScope sNexts)) (by decide +kernel)) (fun _ _ _ _ _ => by exact (pg_name (i := 4) scNexts.nd rfl (Or.inl rfl))) (fun _ _ _ _ _ => by exact pts_nil) (fun _ _ _ _ _ => by exact (pe_call cnext_house.ok hr (by rfl) cnext_house.g cnext_house.kp cnext_house.b .nil pass0 (pa_cons (pv 3) (pa_cons (pv 1) (pa_cons (pv 2) (pa_cons (pv 4) pa_nil)))))))))), ?_⟩
    refine ⟨_, rfl, _, rfl, _, rfl, n, g, t, ts, rfl, hg, hn, hT, hF, fun p H1 np s1 hp => ?_⟩
    have hI := farD_is hF hg
    refine ⟨_, rfl, n, rfl, by omega, by omega, fun D nD => ?_⟩
    refine lc_range (lo := 0) (n := n) (fun i H' => Same H1 H' ∧ ∃ xs : List (Option Nat), H' D = some (.lst (xs.map ov)) ∧ xs.length = i ∧ ∀ h < i, IsNext (both ts) (farD n ts g) g h (at? xs h))
      ⟨same_upd nD, [], upd_same, rfl, fun h z => absurd z (Nat.not_lt_zero _)⟩ ?_ ?_
    · rintro i H2 hi ⟨s2, xs, hD, hxl, hx⟩
      refine ⟨rfl, ?_⟩
      refine ⟨_, rfl, _, rfl, _, rfl, _, rfl, p, t, farD n ts g, ts, n, g, i, by rw [Int.zero_add]; rfl, s2 _ _ hp, (hT.same s1).same s2, hl, hF, hI, hi, fun x H3 hx3 s3 => ?_⟩
      refine ⟨_, s3 _ _ hD, by rw [List.length_map]; exact small1000 (by omega), fun b o q => ?_, xs ++ [x], ?_, by rw [List.length_append, hxl]; rfl, fun h hh => ?_⟩
      · rw [upd_ne (ne_of_none q nD)]
        exact s3 _ _ (s2 _ _ q)
      · rw [upd_same, List.map_append]
        rfl
      · unfold at?
        by_cases hlt : h < i
        · rw [List.getElem?_append_left (by omega)]
          exact hx h hlt
        · have : h = i := by omega
          subst this
          rw [List.getElem?_append_right (by omega), hxl, Nat.sub_self]
          exact hx3
    · rintro H2 ⟨s2, xs, hD, hxl, hx⟩
      exact kk D H2 (s1.free nD) (s1.trans s2) ⟨xs, hD, hxl, hx⟩
end
end K

namespace K
open PySem PySem.Spec PyProof.Rows L2
abbrev sSlipI : Stmt := inClass (top 1) 0
section
variable {P : Program} {w : World} {K : PySem.W.Frag} {mg : Str → Option Value} {base : Heap}
theorem scSlipI : FnScope ["self", "word", "why"] ["self", "word", "why"] (defScope sSlipI) := ⟨rfl, rfl, rfl, by decide +kernel, rfl, by decide +kernel, by decide +kernel⟩
theorem ok_slipI {f CS fS : Addr} {fd : FuncData} {k : Nat} {dvs : List V} (F : FunD K "__init__" "SlipError.__init__" (defArgs sSlipI) (defBody sSlipI) (defScope sSlipI) dvs [] f fd) (T : SlipT K mg CS fS) : FnOk P w K mg base CX0 (k + 1) f fd ["self", "word", "why"] (spSlip K) := by
  refine F.ok scSlipI (fun vs H Q E h => ?_) (fun cdv A outer s H vs Q E hr h => ?_)
  · obtain ⟨a, C, wd, y, rfl, _⟩ := h
    rfl
  · obtain ⟨a, C, wd, y, rfl, oex, hw, ha, q⟩ := h
    refine ⟨_, PSs.nox (pss_cons (ps_expr (pe_veinit (by rfl) T.mV T.vV (pa_cons (pv 0) (pa_cons (pv 2) pa_nil)))) (pss_one (ps_ost (pv 0) (pv 1)))), ?_⟩
    refine ⟨_, rfl, _, rfl, a, C, [.str y], rfl, (by show 1 ≤ 1000; decide), oex, ha, ?_⟩
    exact ⟨_, rfl, _, rfl, a, C, rfl, oex, hw, .inl ⟨ha, fun dx n ne => q dx n ne⟩⟩
end
end K

namespace K
open PySem PySem.Spec PyProof.Rows L2
abbrev sNoHouseI : Stmt := inClass (top 2) 0
section
variable {P : Program} {w : World} {K : PySem.W.Frag} {mg : Str → Option Value} {base : Heap}
theorem scNoHouseI : FnScope ["self", "house"] ["self", "house"] (defScope sNoHouseI) := ⟨rfl, rfl, rfl, by decide +kernel, rfl, by decide +kernel, by decide +kernel⟩
theorem ok_nohouseI {f CS fS : Addr} {fd fdS : FuncData} {k : Nat} (F : Fun K "__init__" "NoHouse.__init__" sNoHouseI f fd) (T : SlipT K mg CS fS) (GS : FnOk P w K mg base CX0 (k + 1) fS fdS ["self", "word", "why"] (spSlip K)) (bS : Binds K fdS ["self", "word", "why"] []) : FnOk P w K mg base CX0 (k + 2) f fd ["self", "house"] (spIn1 K "house" "nohouse" askInt gotSame) := by
  refine F.ok scNoHouseI (fun vs H Q E h => ?_) (fun cdv A outer s H vs Q E hr h => ?_)
  · obtain ⟨a, C, v, rfl, _⟩ := h
    rfl
  · obtain ⟨a, C, v, rfl, hask, oex, hw, hf, ha, q⟩ := h
    refine ⟨_, pss_cons (ps_expr (pe_clsf (pe_glob (v := .ref CS) (by rfl) T.g rfl) T.r T.at_ GS hr T.kp bS pass0 (pa_cons (pv 0) (pa_cons pe_str (pa_cons (pe_joined (.cons pe_str (.cons (pe_fmt (pv 1)) .nil))) pa_nil))))) (pss_one (ps_ost (pv 0) (pv 1))), ?_⟩
    obtain ⟨i, rfl, hi⟩ := hask
    refine ⟨rfl, _, rfl, _, rfl, by decide +kernel, _, rfl, .inr ⟨i, rfl, hi, _, rfl, join2_le (by decide +kernel) (Nat.le_trans (PyProof.Rows.int_text_len_1921 hi) (by decide)), ?_⟩⟩
    refine ⟨a, C, _, _, rfl, oex, hw, ha, fun dx nd ne => ?_⟩
    refine ⟨_, rfl, _, rfl, a, C, rfl, oex, hf, .inr ⟨dx, _, upd_same, by rw [upd_ne ne]; exact upd_same, (by show 1 ≤ 900; decide), ?_⟩⟩
    refine q dx _ _ nd ne (fun b o e hb => ?_) ?_ upd_same rfl
    · rw [upd_ne (ne_of_none e nd), upd_ne hb, upd_ne (ne_of_none e nd)]
      exact e
    · rw [upd_ne (Ne.symm ne)]
      exact upd_same
end
end K

namespace K
open PySem PySem.Spec PyProof.Rows L2
abbrev sNoWayI : Stmt := inClass (top 3) 0
section
variable {P : Program} {w : World} {K : PySem.W.Frag} {mg : Str → Option Value} {base : Heap}
theorem scNoWayI : FnScope ["self", "lot"] ["self", "lot"] (defScope sNoWayI) := ⟨rfl, rfl, rfl, by decide +kernel, rfl, by decide +kernel, by decide +kernel⟩
theorem ok_nowayI {f CS fS : Addr} {fd fdS : FuncData} {k : Nat} (F : Fun K "__init__" "NoWay.__init__" sNoWayI f fd) (T : SlipT K mg CS fS) (GS : FnOk P w K mg base CX0 (k + 1) fS fdS ["self", "word", "why"] (spSlip K)) (bS : Binds K fdS ["self", "word", "why"] []) (ml : mg "list" = none) : FnOk P w K mg base CX0 (k + 2) f fd ["self", "lot"] (spIn1 K "lot" "noway" (askLot K) gotLot) := by
  refine F.ok scNoWayI (fun vs H Q E h => ?_) (fun cdv A outer s H vs Q E hr h => ?_)
  · obtain ⟨a, C, v, rfl, _⟩ := h
    rfl
  · obtain ⟨a, C, v, rfl, hask, oex, hw, hf, ha, q⟩ := h
    refine ⟨_, pss_cons (ps_expr (pe_clsf (pe_glob (v := .ref CS) (by rfl) T.g rfl) T.r T.at_ GS hr T.kp bS pass0 (pa_cons (pv 0) (pa_cons pe_str (pa_cons (pe_joined (.cons pe_str (.cons (pe_fmtL hr (pv 1)) .nil))) pa_nil))))) (pss_one (ps_ost (pv 0) (pe_callTy call_list_of (by rfl) ml (by decide +kernel) (pa_cons (pv 1) pa_nil)))), ?_⟩
    obtain ⟨l, ns, rfl, hl, hz, hd⟩ := hask
    refine ⟨rfl, _, rfl, _, rfl, by decide +kernel, _, rfl, l, ns, rfl, SqL.of hl, hz, hd, fun m hm => ⟨m, rfl, join2_le (by decide +kernel) (by omega), ?_⟩⟩
    refine ⟨a, C, _, _, rfl, oex, hw, ha, fun dx nd ne => ?_⟩
    have hla : l ≠ a := ext_ne_lst ha hl
    have hl2 : (upd (upd H dx (exd dx [("word", .str "noway")])) a (exo a C (some dx))) l = some (.lst (ns.map V.int)) := by
      rw [upd_ne hla, upd_ne (ne_of_none hl nd)]
      exact hl
    refine ⟨_, rfl, l, _, rfl, .inl (SqL.of hl2), fun l2 nl2 => ?_⟩
    have h2a : l2 ≠ a := fun z => by
      subst z
      rw [upd_same] at nl2
      cases nl2
    have h2d : l2 ≠ dx := fun z => by
      subst z
      rw [upd_ne ne, upd_same] at nl2
      cases nl2
    refine ⟨_, rfl, a, C, rfl, oex, hf, .inr ⟨dx, _, by rw [upd_ne (Ne.symm h2a)]; exact upd_same, by rw [upd_ne (Ne.symm h2d), upd_ne ne]; exact upd_same, (by show 1 ≤ 900; decide), ?_⟩⟩
    have nll : l ≠ l2 := ne_of_none hl2 nl2
    have hld : l ≠ dx := ne_of_none hl nd
    refine q dx (.ref l2) _ nd ne (fun b o e hb => ?_) ?_ upd_same ⟨l, l2, ns.map V.int, rfl, rfl, ?_, ?_, nll, by rw [upd_ne h2a, upd_ne h2d] at nl2; exact nl2⟩
    · have e2 : (upd (upd H dx (exd dx [("word", .str "noway")])) a (exo a C (some dx))) b = some o := by
        rw [upd_ne hb, upd_ne (ne_of_none e nd)]
        exact e
      rw [upd_ne (ne_of_none e nd), upd_ne (ne_of_none e2 nl2)]
      exact e2
    · rw [upd_ne (Ne.symm ne), upd_ne (Ne.symm h2a)]
      exact upd_same
    · rw [upd_ne hld, upd_ne nll]
      exact hl2
    · rw [upd_ne h2d]
      exact upd_same
end
end K

namespace K
open PySem PySem.Spec PyProof.Rows L2
open Sw (T3 Dist at? relax roundOf rounds IsNext Cand IsFar nbr candL WayTo lotOf)
abbrev sCheck2 : Stmt := sCheck
section
variable {P : Program} {w : World} {K : PySem.W.Frag} {mg : Str → Option Value} {base : Heap}
theorem ok_checkX {f CH fI : Addr} {fd fdI : FuncData} {k : Nat} (F : Fun K "check_house" "check_house" sCheck f fd) (T : ExcC P w K mg base (k + 2) "NoHouse" CH fI fdI ["self", "house"] (spIn1 K "house" "nohouse" askInt gotSame)) (hfld : PySem.W.findIn K (.ref CH) "house" = some none) : FnOk P w K mg base (L2.CX P w) (k + 4) f fd ["many", "house"] (spCheckX CH) := by
  refine F.okX scCheck (fun vs H Q E h => ?_) (fun cdv A outer s H vs Q E hr h => ?_)
  · obtain ⟨n, h, rfl, _⟩ := h
    rfl
  · obtain ⟨n, h, rfl, hh, hy, hno⟩ := h
    have hr3 : Room (k + 3) _ := hr
    refine ⟨_, pss_one (ps_if (PW.pt (pw_or (pt_cmpR op_lt (pv 1) pe_int (nomark _)) (pw_or1 (pt_cmpR op_ge (pv 1) (pv 0) (nomark _)))))
      (pss_one (ps_raise rfl (takes_of rfl rfl rfl rfl) (pmk_oex T.t.oex T.t.iC T.t.tI T.ok hr3 T.b .nil pass0 (by rfl) T.t.g (pa_cons (pv 1) pa_nil)))) pss_nil), ?_⟩
    have go : ¬ (0 ≤ h ∧ h < n) → tMkO CH (spIn1 K "house" "nohouse" askInt gotSame) [] (tCons (tVar 1) tNil) (L2.start ["many", "house"] [.int (n : Nat), .int h]) H fun cls d H' => E cls d H' := fun c => by
      refine ⟨_, rfl, (by show 1 ≤ 1000; decide), fun a na => ?_⟩
      have hX := hno c
      refine ⟨a, CH, _, rfl, ⟨h, rfl, hh⟩, T.t.oex, T.t.word, hfld, upd_same, fun dx v' H2 nd ne k2 ha2 hd2 hv => ⟨rfl, dx, _, ha2, hd2, ?_, ?_⟩⟩
      · rw [upd_ne ne] at nd
        exact nd
      · have hv : v' = .int h := hv
        subst hv
        have nd0 : H dx = none := by rw [upd_ne ne] at nd; exact nd
        exact hX dx _ nd0 (raised_same na (fun b o e hb => k2 b o (by rw [upd_ne hb]; exact e) hb) nd0) upd_same
    refine ⟨_, rfl, _, _, rfl, rfl, _, rfl, ?_⟩
    refine ite2 (fun c => ?_) (fun c => ?_)
    · have c := of_decide_eq_true c
      exact iteT (go (by omega))
    · have c : ¬ h < 0 := fun z => c (decide_eq_true z)
      refine ⟨_, rfl, _, rfl, _, _, rfl, rfl, _, rfl, ?_⟩
      refine ite2 (fun c2 => ?_) (fun c2 => ?_)
      · have c2 := of_decide_eq_true c2
        exact go (by omega)
      · have c2 : ¬ (n : Int) ≤ h := fun z => c2 (decide_eq_true z)
        exact hy (by omega)
end
end K

namespace K
open PySem PySem.Spec PyProof.Rows L2
open Sw (T3 Dist at? relax roundOf rounds IsNext Cand IsFar nbr candL WayTo lotOf)
abbrev sReach : Stmt := top 11
abbrev sLeast : Stmt := top 12
theorem lot_succ (i : Nat) (d : Dist) : lotOf (i + 1) d = lotOf i d ++ (if (at? d i).isSome = true then [i] else []) := by
  unfold lotOf
  rw [List.range_succ, List.filter_append]
  congr 1
  simp only [List.filter_cons, List.filter_nil]
theorem lot_len (i : Nat) (d : Dist) : (lotOf i d).length ≤ i := by
  unfold lotOf
  have := List.length_filter_le (fun h => (at? d h).isSome) (List.range i)
  rwa [List.length_range] at this
section
variable {P : Program} {w : World} {K : PySem.W.Frag} {mg : Str → Option Value} {base : Heap}
theorem scReach : FnScope ["many", "ties", "start", "prices", "house"] ["many", "ties", "start"] (defScope sReach) := ⟨rfl, rfl, rfl, by decide +kernel, rfl, by decide +kernel, by decide +kernel⟩
theorem ok_reach {f fF : Addr} {fd fdF : FuncData} {k : Nat} (F : Fun K "reached" "reached" sReach f fd) (T : BT mg) (cfar : Cal P w K mg base (k + 2) "far" fF fdF ["many", "ties", "goal"] spFar) : FnOk P w K mg base CX0 (k + 3) f fd ["many", "ties", "start"] spReach := by
  refine F.ok scReach (fun vs H Q E h => ?_) (fun cdv A outer s H vs Q E hr h => ?_)
  · obtain ⟨n, g, t, ts, rfl, _⟩ := h
    rfl
  · obtain ⟨n, g, t, ts, rfl, hg, hn, hT, hF, kk⟩ := h
    refine ⟨_, (pss_cons (ps_set (i := 3) scReach.nd rfl (.inr rfl) (pe_call cfar.ok hr (by rfl) cfar.g cfar.kp cfar.b .nil pass0 (pa_cons (pv 0) (pa_cons (pv 1) (pa_cons (pv 2) pa_nil)))))
      (pss_one (ps_ret (pe_lc (own := [("house", 4)]) (g := (gName 4)) rfl scReach.nd (by exact (pi_range1 (by rfl) T.range (pa_cons (pv 0) pa_nil))) (blkOk_by (own := [("house", 4)]) (N := ["many", "ties", "start", "prices", "house"]) (sc := (defScope sReach)) (by decide +kernel)) (fun _ _ _ _ _ => by exact (pg_name (i := 4) scReach.nd rfl (Or.inl rfl))) (fun _ _ _ _ _ => by exact (pts_one (pt_cmpR op_notN (pe_ix (r := rIxL K) ix_list (pv 3) (pv 4) (fun _ _ => rfl)) pe_non (nomark _)))) (fun _ _ _ _ _ => by exact (pv 4)))))), ?_⟩
    refine ⟨_, rfl, _, rfl, _, rfl, n, g, t, ts, rfl, hg, hn, hT, hF, fun p H1 np s1 hp => ?_⟩
    have hI := farD_is hF hg
    have hd := hI.len
    generalize farD n ts g = d at hI hd hp kk
    refine ⟨_, rfl, n, rfl, by omega, by omega, fun D nD => ?_⟩
    refine lc_range (lo := 0) (n := n) (fun i H' => Same H1 H' ∧ H' D = some (.lst ((lotOf i d).map fun h => V.int (h : Nat)))) ⟨same_upd nD, upd_same⟩ ?_ ?_
    · rintro i H2 hi ⟨s2, hD⟩
      refine ⟨rfl, ?_⟩
      have ha := atI_nat (at_of (d := d) (v := i) (by omega))
      rw [show (i : Int) = 0 + (i : Int) by omega] at ha
      refine ⟨_, rfl, _, rfl, p, _, _, _, rfl, rfl, SqL.of (s2 _ _ hp), ha, rfl, _, rfl, ?_⟩
      have step := lot_succ i d
      cases ei : at? d i with
      | none =>
        refine iteF ?_
        rw [ei] at step
        have step : lotOf (i + 1) d = lotOf i d := by rw [step]; simp
        exact ⟨s2, by rw [step]; exact hD⟩
      | some c =>
        refine iteT ?_
        rw [ei] at step
        have step : lotOf (i + 1) d = lotOf i d ++ [i] := by rw [step]; simp
        have hl := lot_len i d
        refine ⟨_, rfl, _, hD, by rw [List.length_map]; exact small1000 (by omega), fun b o q => ?_, ?_⟩
        · rw [upd_ne (ne_of_none q nD)]
          exact s2 _ _ q
        · rw [upd_same, step, List.map_append, Int.zero_add]
          rfl
    · rintro H2 ⟨s2, hD⟩
      exact kk D H2 (s1.free nD) (s1.trans s2) hD
theorem scLeast : FnScope ["many", "ties", "start", "goal", "price", "onward", "way"] ["many", "ties", "start", "goal"] (defScope sLeast) := ⟨rfl, rfl, rfl, by decide +kernel, rfl, by decide +kernel, by decide +kernel⟩
theorem ok_least {f CH CW fC fF fN fR fI : Addr} {fd fdC fdF fdN fdR fdI : FuncData} {k : Nat} (F : Fun K "least_way" "least_way" sLeast f fd) (T : BT mg) (ccheck_house : CalX P w K mg base (k + 5) "check_house" fC fdC ["many", "house"] (spCheckX CH)) (cfar : Cal P w K mg base (k + 5) "far" fF fdF ["many", "ties", "goal"] spFar)
    (cnexts : Cal P w K mg base (k + 5) "nexts" fN fdN ["many", "ties", "goal"] spNexts) (creached : Cal P w K mg base (k + 5) "reached" fR fdR ["many", "ties", "start"] spReach) (TW : ExcC P w K mg base (k + 4) "NoWay" CW fI fdI ["self", "lot"] (spIn1 K "lot" "noway" (askLot K) gotLot)) (hfld : PySem.W.findIn K (.ref CW) "lot" = some none) :
    FnOk P w K mg base (L2.CX P w) (k + 6) f fd ["many", "ties", "start", "goal"] (spLeastX CH CW) := by
  refine F.okX scLeast (fun vs H Q E h => ?_) (fun cdv A outer s H vs Q E hr h => ?_)
  · obtain ⟨n, s, g, t, ts, rfl, _⟩ := h
    rfl
  · obtain ⟨n, si, gi, t, ts, rfl, hn, hsl, hgl, hT, hl, hF, hP, kS, kG, kN, kW⟩ := h
    refine ⟨_, (pss_cons (ps_expr (pe_call ccheck_house.ok hr (by rfl) ccheck_house.g ccheck_house.kp ccheck_house.b .nil (passes_call (takes_of rfl rfl rfl rfl) (fun _ _ _ _ h => h)) (pa_cons (pv 0) (pa_cons (pv 2) pa_nil))))
      (pss_cons (ps_expr (pe_call ccheck_house.ok hr (by rfl) ccheck_house.g ccheck_house.kp ccheck_house.b .nil (passes_call (takes_of rfl rfl rfl rfl) (fun _ _ _ _ h => h)) (pa_cons (pv 0) (pa_cons (pv 3) pa_nil))))
      (pss_cons (ps_set (i := 4) scLeast.nd rfl (.inl rfl) (pe_ix (r := rIxL K) ix_list (pe_call cfar.ok hr (by rfl) cfar.g cfar.kp cfar.b .nil pass0 (pa_cons (pv 0) (pa_cons (pv 1) (pa_cons (pv 3) pa_nil)))) (pv 2) (fun _ _ => rfl)))
      (pss_cons (ps_if (pt_cmpR op_isN (pv 4) pe_non (nomark _))
        (pss_one (ps_raise rfl (takes_of rfl rfl rfl rfl) (pmk_oex TW.t.oex TW.t.iC TW.t.tI TW.ok hr TW.b .nil pass0 (by rfl) TW.t.g (pa_cons (pe_call creached.ok hr (by rfl) creached.g creached.kp creached.b .nil pass0 (pa_cons (pv 0) (pa_cons (pv 1) (pa_cons (pv 2) pa_nil)))) pa_nil))))
        pss_nil)
      (PSs.nox (pss_cons (ps_set (i := 5) scLeast.nd rfl (.inl rfl) (pe_call cnexts.ok hr (by rfl) cnexts.g cnexts.kp cnexts.b .nil pass0 (pa_cons (pv 0) (pa_cons (pv 1) (pa_cons (pv 3) pa_nil)))))
      (pss_cons (ps_set (i := 6) scLeast.nd rfl (.inl rfl) (pe_lst (pa_cons (pv 2) pa_nil)))
      (pss_cons (ps_while PassesOwn.never (pt_cmpR op_ne (pe_ix (r := rIxL K) ix_list (pv 6) (pe_un un_neg pe_int) (fun _ _ => rfl)) (pv 3) (nomark _))
        (pss_one (ps_expr (pe_bm PySem.F.plainAttrs_list PySem.F.slot_list_append PySem.F.type_list_append mt_append (pv 6) (pa_cons (pe_ix (r := rIxL K) ix_list (pv 5) (pe_ix (r := rIxL K) ix_list (pv 6) (pe_un un_neg pe_int) (fun _ _ => rfl)) (fun _ _ => rfl)) pa_nil)))))
      (pss_one (ps_ret (pe_tup (pa_cons (pv 4) (pa_cons (pe_callTy call_tuple_of (by rfl) T.tuple (by decide +kernel) (pa_cons (pv 6) pa_nil)) pa_nil))))))))))))), ?_⟩
    refine ⟨_, rfl, _, rfl, n, si, rfl, hsl, fun hs => ?_, fun hs => kS hs⟩
    refine ⟨_, rfl, _, rfl, n, gi, rfl, hgl, fun hg => ?_, fun hg => kG hs hg⟩
    obtain ⟨s', es⟩ : ∃ s' : Nat, si = (s' : Nat) := ⟨si.toNat, by omega⟩
    obtain ⟨g', eg⟩ : ∃ g' : Nat, gi = (g' : Nat) := ⟨gi.toNat, by omega⟩
    subst es
    subst eg
    have hs' : s' < n := by omega
    have hg' : g' < n := by omega
    have hI := farD_is hF hg'
    have hd := hI.len
    refine ⟨_, rfl, _, rfl, _, rfl, n, g', t, ts, rfl, hg', by omega, hT, hF, fun p H1 np s1 hp => ?_⟩
    have ha := atI_nat (at_of (d := farD n ts g') (v := s') (by omega))
    refine ⟨_, rfl, p, _, _, _, rfl, rfl, SqL.of hp, ha, ?_⟩
    refine ⟨_, rfl, rfl, _, rfl, ?_⟩
    cases ep : at? (farD n ts g') s' with
    | none =>
      refine iteT ?_
      have kN := kN s' g' rfl rfl hs' hg' ep
      refine ⟨_, rfl, _, rfl, _, rfl, n, s', t, ts, rfl, hs', by omega, hT.same s1, hF, fun l H2 nl s2 hl2 => ?_⟩
      refine ⟨(by show 1 ≤ 1000; decide), fun a na => ?_⟩
      have hla : l ≠ a := ne_of_none hl2 na
      have hll := lot_len n (farD n ts s')
      refine ⟨a, CW, _, rfl, ⟨l, (lotOf n (farD n ts s')).map (fun (h : Nat) => (h : Int)), rfl, ?_, by rw [List.length_map]; omega, fun z hz => ?_⟩, TW.t.oex, TW.t.word, hfld, upd_same, fun dx v' H3 nd ne k3 ha3 hd3 hv => ⟨rfl, dx, _, ha3, hd3, ?_, ?_⟩⟩
      · rw [upd_ne hla, hl2, List.map_map]
        rfl
      · obtain ⟨h, hm, rfl⟩ := List.mem_map.mp hz
        have : h < n := by
          unfold lotOf at hm
          exact List.mem_range.mp (List.mem_filter.mp hm).1
        omega
      · rw [upd_ne ne] at nd
        exact nd
      · obtain ⟨l1, l2, xs, e1, e2, hx1, hx2, hne, hnew⟩ := hv
        cases e1
        subst e2
        have nd2 : H2 dx = none := by rw [upd_ne ne] at nd; exact nd
        have sm : Same H (upd (del H3 a) dx (.xd [("lot", .ref l2), ("word", .str "noway")])) := (s1.trans s2).trans (raised_same na (fun b o e hb => k3 b o (by rw [upd_ne hb]; exact e) hb) nd2)
        have hl3 : H3 l = some (.lst ((lotOf n (farD n ts s')).map fun h => V.int (h : Nat))) := k3 l _ (by rw [upd_ne hla]; exact hl2) hla
        rw [hx1] at hl3
        injection hl3 with hl3
        injection hl3 with hl3
        have h2a : l2 ≠ a := ext_ne_lst ha3 hx2
        have h2d : l2 ≠ dx := fun z => by
          subst z
          rw [hd3] at hx2
          cases hx2
        refine kN dx l2 _ ((s1.trans s2).free nd2) ?_ sm upd_same ?_
        · rw [upd_ne h2a] at hnew
          exact (s1.trans s2).free hnew
        · rw [upd_ne h2d, del_ne h2a, hx2, hl3]
    | some c =>
      refine iteF ?_
      rw [ep] at ha
      have hbE : ∀ e ∈ both ts, e.1 < n := fun e m => (both_lt hF e m).1
      have hbP : ∀ a b c, (a, b, c) ∈ both ts → 1 ≤ c ∧ c ≤ 9 := fun a b c m => by rcases (both_mem ts _).mp m with z | z <;> exact hP _ z
      have hc9 := Sw.far_small hI hbE (fun e m => (hbP e.1 e.2.1 e.2.2 m).2) ep
      have hc100 : c ≤ 81 := by omega
      refine ⟨_, rfl, _, rfl, _, rfl, n, g', t, ts, rfl, hg', by omega, hT.same s1, hl, hF, fun o H2 no s2 hN => ?_⟩
      obtain ⟨xs, ho, hxl, hx⟩ := hN
      have kW := fun way hw hl => kW s' g' c way rfl rfl hs' hg' ep hw hl
      generalize farD n ts g' = d at hI hd hx kW ep
      refine ⟨_, rfl, (by show 1 ≤ sizeLine; decide), fun wa nw => ?_⟩
      have s3 := same_upd (o := .lst [.int (s' : Nat)]) nw
      refine ⟨fun m σ H' => ∃ (pre : List Nat) (x : Nat), σ = [some (.int (n : Nat)), some (.ref t), some (.int (s' : Nat)), some (.int (g' : Nat)), some (.int (c : Nat)), some (.ref o), some (.ref wa)] ∧ Same H2 H' ∧ H' wa = some (.lst ((pre ++ [x]).map fun h => V.int (h : Nat))) ∧ x < n ∧ at? d x = some m ∧ pre.length + m ≤ c ∧ ∀ l, WayTo (both ts) d g' x l → WayTo (both ts) d g' s' (pre ++ l),
        ⟨c, [], s', rfl, s3, upd_same, hs', ep, by simp, fun l z => z⟩, ?_⟩
      rintro m σ H3 ⟨pre, x, rfl, s4, hw, hxn, hxm, hlen, hway⟩
      have hlast : atI ((pre ++ [x]).map fun h => V.int (h : Nat)) (-1) = some (.int (x : Nat)) := by
        rw [List.map_append]
        exact atI_last _ _
      refine ⟨_, rfl, 1, rfl, wa, _, _, _, rfl, rfl, SqL.of hw, hlast, _, rfl, rfl, _, rfl, ?_⟩
      by_cases hxg : x = g'
      · subst hxg
        refine iteNS rfl ?_
        refine ⟨_, rfl, _, rfl, wa, _, rfl, .inl ⟨SqL.of hw, fun tw ntw => ⟨(by show 2 ≤ sizeLine; decide), fun pr npr => ?_⟩⟩⟩
        have s5 := same_upd (o := .tup ((pre ++ [x]).map fun h => V.int (h : Nat))) ntw
        have s6 := same_upd (o := .tup [.int (c : Nat), .ref tw]) npr
        have sall : Same H (upd (upd H3 tw (.tup ((pre ++ [x]).map fun h => V.int (h : Nat)))) pr (.tup [.int (c : Nat), .ref tw])) := s1.trans (s2.trans (s4.trans (s5.trans s6)))
        refine kW (pre ++ [x]) (hway [x] .here) (by rw [List.length_append]; show pre.length + 1 ≤ 100; omega) pr _ ((s1.trans (s2.trans s4)).free (s5.free npr)) sall ⟨tw, upd_same, ?_⟩
        exact s6 _ _ upd_same
      · have hne : ¬ V.int (x : Nat) = V.int (g' : Nat) := fun z => hxg (by injection z with z; have : (x : Int) = (g' : Int) := z; omega)
        rw [decide_eq_false hne]
        refine iteT ?_
        have hnx := hx x hxn
        obtain ⟨u, hu⟩ : ∃ u, at? xs x = some u := by
          cases e : at? xs x with
          | none =>
            rw [e] at hnx
            rcases hnx with z | z
            · exact absurd z hxg
            · rw [hxm] at z; cases z
          | some u => exact ⟨u, rfl⟩
        rw [hu] at hnx
        obtain ⟨c', y, hm1, hy, hz⟩ := id hnx.2.2.1
        rw [hxm] at hz
        injection hz with hz
        have hc1 := hbP _ _ _ hm1
        have hun : u < n := (both_lt hF _ hm1).2
        have hao := atI_nat (at_of (d := xs) (v := x) (by omega))
        rw [hu] at hao
        refine ⟨fun σ' H' => ∃ m', m' < m ∧ ∃ (pre : List Nat) (x : Nat), σ' = [some (.int (n : Nat)), some (.ref t), some (.int (s' : Nat)), some (.int (g' : Nat)), some (.int (c : Nat)), some (.ref o), some (.ref wa)] ∧ Same H2 H' ∧ H' wa = some (.lst ((pre ++ [x]).map fun h => V.int (h : Nat))) ∧ x < n ∧ at? d x = some m' ∧ pre.length + m' ≤ c ∧ ∀ l, WayTo (both ts) d g' x l → WayTo (both ts) d g' s' (pre ++ l), fun σ' H' z => z, ?_⟩
        refine ⟨_, rfl, .inl ⟨rfl, _, SqL.of hw⟩, _, rfl, _, rfl, 1, rfl, wa, _, _, _, rfl, rfl, SqL.of hw, hlast, o, _, _, _, rfl, rfl, SqL.of (s4 _ _ ho), hao, wa, _, _, rfl, rfl, hw, ?_, ?_⟩
        · rw [List.length_map, List.length_append]
          exact small1000 (by show pre.length + 1 ≤ 1000; omega)
        · refine ⟨y, by omega, pre ++ [x], u, rfl, fun b oo q => ?_, ?_, hun, hy, ?_, fun l hl => ?_⟩
          · rw [upd_ne (ne_of_none q nw)]
            exact s4 _ _ q
          · rw [upd_same, List.map_append (l₁ := pre ++ [x])]
            rfl
          · rw [List.length_append]
            show pre.length + 1 + y ≤ c
            omega
          · rw [List.append_assoc]
            exact hway _ (.step hnx hl)
end
end K


namespace K
open PySem PySem.Spec PyProof.Rows L2
open Sw (T3 Dist at? relax roundOf rounds IsNext Cand IsFar nbr candL WayTo lotOf)
abbrev sAllW : Stmt := top 20
def wv (l : List Nat) : List V := l.map fun h => V.int (h : Nat)
/-- a way under way stands at a -/
def EntAt (H : Hp) (a : Addr) (w : Ent) : Prop := ∃ l, H a = some (.tup [.ref l, .int (w.2.2 : Nat)]) ∧ H l = some (.lst (wv (w.1 ++ [w.2.1])))
def FoundAt (H : Hp) (p : Addr) (fs : List Ent) : Prop := ∃ as : List Addr, H p = some (.lst (as.map V.ref)) ∧ Paired (EntAt H) as fs
/-- (cost, way) stands at a -/
def EndAt (H : Hp) (a : Addr) (x : Nat × List Nat) : Prop := ∃ l, H a = some (.tup [.int (x.1 : Nat), .ref l]) ∧ H l = some (.tup (wv x.2))
def EndsAt (H : Hp) (p : Addr) (es : List (Nat × List Nat)) : Prop := ∃ as : List Addr, H p = some (.lst (as.map V.ref)) ∧ Paired (EndAt H) as es
theorem EntAt.same {H H' : Hp} {a : Addr} {w : Ent} (h : EntAt H a w) (s : Same H H') : EntAt H' a w := by
  obtain ⟨l, h1, h2⟩ := h
  exact ⟨l, s _ _ h1, s _ _ h2⟩
theorem EndAt.same {H H' : Hp} {a : Addr} {w : Nat × List Nat} (h : EndAt H a w) (s : Same H H') : EndAt H' a w := by
  obtain ⟨l, h1, h2⟩ := h
  exact ⟨l, s _ _ h1, s _ _ h2⟩
theorem FoundAt.same {H H' : Hp} {a : Addr} {w : List Ent} (h : FoundAt H a w) (s : Same H H') : FoundAt H' a w := by
  obtain ⟨l, h1, h2⟩ := h
  exact ⟨l, s _ _ h1, paired_mono (fun _ _ q => q.same s) h2⟩
theorem EndsAt.same {H H' : Hp} {a : Addr} {w : List (Nat × List Nat)} (h : EndsAt H a w) (s : Same H H') : EndsAt H' a w := by
  obtain ⟨l, h1, h2⟩ := h
  exact ⟨l, s _ _ h1, paired_mono (fun _ _ q => q.same s) h2⟩
theorem wv_ne {l : List Nat} {x : Nat} {as : List Addr} : HO.lst (wv (l ++ [x])) ≠ HO.lst (as.map V.ref) := fun e => by
  injection e with e
  unfold wv at e
  cases as with
  | nil => simp at e
  | cons a as =>
    cases l with
    | nil => simp at e
    | cons y l => simp at e
theorem wv_put {H : Hp} {l z : Addr} {w : List Nat} {x : Nat} {bs : List Addr} {o : HO} (h : H l = some (.lst (wv (w ++ [x])))) (hz : H z = some (.lst (bs.map V.ref))) : upd H z o l = some (.lst (wv (w ++ [x]))) := by
  rw [upd_ne (ne_of h hz wv_ne)]
  exact h
theorem EntAt.put {H : Hp} {a z : Addr} {w : Ent} {bs : List Addr} {o : HO} (h : EntAt H a w) (hz : H z = some (.lst (bs.map V.ref))) : EntAt (upd H z o) a w := by
  obtain ⟨l, h1, h2⟩ := h
  exact ⟨l, by rw [upd_ne (ne_of h1 hz (fun e => by cases e))]; exact h1, wv_put h2 hz⟩
theorem EndAt.put {H : Hp} {a z : Addr} {w : Nat × List Nat} {bs : List Addr} {o : HO} (h : EndAt H a w) (hz : H z = some (.lst (bs.map V.ref))) : EndAt (upd H z o) a w := by
  obtain ⟨l, h1, h2⟩ := h
  exact ⟨l, by rw [upd_ne (ne_of h1 hz (fun e => by cases e))]; exact h1, by rw [upd_ne (ne_of h2 hz (fun e => by cases e))]; exact h2⟩
theorem FoundAt.put {H : Hp} {p z : Addr} {fs : List Ent} {bs : List Addr} {o : HO} (h : FoundAt H p fs) (hz : H z = some (.lst (bs.map V.ref))) (hn : p ≠ z) : FoundAt (upd H z o) p fs := by
  obtain ⟨as, h1, h2⟩ := h
  exact ⟨as, by rw [upd_ne hn]; exact h1, paired_mono (fun _ _ q => q.put hz) h2⟩
theorem EndsAt.put {H : Hp} {p z : Addr} {fs : List (Nat × List Nat)} {bs : List Addr} {o : HO} (h : EndsAt H p fs) (hz : H z = some (.lst (bs.map V.ref))) (hn : p ≠ z) : EndsAt (upd H z o) p fs := by
  obtain ⟨as, h1, h2⟩ := h
  exact ⟨as, by rw [upd_ne hn]; exact h1, paired_mono (fun _ _ q => q.put hz) h2⟩
theorem FoundAt.app {H : Hp} {p a : Addr} {fs : List Ent} {w : Ent} {as : List Addr} (h : H p = some (.lst (as.map V.ref))) (h2 : Paired (EntAt H) as fs) (ha : EntAt H a w) : FoundAt (upd H p (.lst (as.map V.ref ++ [.ref a]))) p (fs ++ [w]) :=
  ⟨as ++ [a], by rw [upd_same, List.map_append]; rfl, paired_append (paired_mono (fun _ _ q => q.put h) h2) (.cons (ha.put h) .nil)⟩
theorem EndsAt.app {H : Hp} {p a : Addr} {fs : List (Nat × List Nat)} {w : Nat × List Nat} {as : List Addr} (h : H p = some (.lst (as.map V.ref))) (h2 : Paired (EndAt H) as fs) (ha : EndAt H a w) : EndsAt (upd H p (.lst (as.map V.ref ++ [.ref a]))) p (fs ++ [w]) :=
  ⟨as ++ [a], by rw [upd_same, List.map_append]; rfl, paired_append (paired_mono (fun _ _ q => q.put h) h2) (.cons (ha.put h) .nil)⟩
theorem inV_wv (b : Nat) (l : List Nat) : inV (.int (b : Nat)) (wv l) = decide (b ∈ l) := by
  unfold inV wv
  rw [List.any_map, Bool.eq_iff_iff]
  simp only [List.any_eq_true, decide_eq_true_eq]
  constructor
  · rintro ⟨x, hx, e⟩
    have e : ((x : Int) == (b : Int)) = true := e
    have := eq_of_beq e
    have : x = b := by omega
    subst this
    exact hx
  · intro h
    refine ⟨b, h, ?_⟩
    show ((b : Int) == (b : Int)) = true
    simp
theorem flat_wv (l : List Nat) : (wv l).all flatV = true := by
  unfold wv
  rw [List.all_map, List.all_eq_true]
  intro x _
  rfl
theorem pow14 {k : Nat} (h : k ≤ 5) : 14 ^ k ≤ 537824 := Nat.le_trans (Nat.pow_le_pow_right (by decide) h) (by decide)
def twoE (g : Nat) (w : Ent) (a b p m : Nat) : List Ent := match m with
  | 0 => []
  | 1 => joinE g w a b p
  | _ => joinE g w a b p ++ joinE g w b a p
theorem two_len (g : Nat) (w : Ent) (a b p m : Nat) : (twoE g w a b p m).length ≤ 2 := by
  have h1 := joinE_len g w a b p
  have h2 := joinE_len g w b a p
  match m with
  | 0 => simp [twoE]
  | 1 => simp only [twoE]; omega
  | m + 2 => simp only [twoE, List.length_append]; omega
theorem found_pre {ts : List T3} {s g : Nat} : ∀ (k : Nat) (w : Ent), w ∈ foundK ts s g k → w.1.length = k
  | 0, w, h => by
    have : w = ([], s, 0) := by simpa [foundK] using h
    subst this
    rfl
  | k + 1, w', h => by
    obtain ⟨w, hw, hx⟩ := List.mem_flatMap.mp (show w' ∈ (foundK ts s g k).flatMap (extL ts g) from h)
    obtain ⟨e, he, hy⟩ := List.mem_flatMap.mp (show w' ∈ ts.flatMap (ext1 g w) from hx)
    have ih := found_pre k w hw
    rcases List.mem_append.mp hy with z | z
    · rw [(joinE_mem z).2]; show (w.1 ++ [w.2.1]).length = k + 1; rw [List.length_append, ih]; rfl
    · rw [(joinE_mem z).2]; show (w.1 ++ [w.2.1]).length = k + 1; rw [List.length_append, ih]; rfl
def spAllW : Sp := fun vs H Q _ => ∃ (n s g : Nat) (t : Addr) (ts : List T3), vs = [.int (n : Nat), .ref t, .int (s : Nat), .int (g : Nat)] ∧ n ≤ 5 ∧ TiesAt H t ts ∧ ts.length ≤ 14 ∧ Good n ts ∧
  ∀ p H', H p = none → Same H H' → EndsAt H' p (endsK ts s g n) → (endsK ts s g n).length ≤ 3000000 → Q (.ref p) H'
section
variable {P : Program} {w : World} {K : PySem.W.Frag} {mg : Str → Option Value} {base : Heap}
theorem scAllW : FnScope ["_law_many", "_law_ties", "_law_start", "_law_goal", "_law_found", "_law_ends", "_law_step", "_law_longer", "_law_way", "_law_cost", "_law_one", "_law_other", "_law_more", "_law_a", "_law_b"] ["_law_many", "_law_ties", "_law_start", "_law_goal"] (defScope sAllW) := ⟨rfl, rfl, rfl, by decide +kernel, rfl, by decide +kernel, by decide +kernel⟩
theorem endsK_len {ts : List T3} {s g : Nat} (h : ∀ e ∈ ts, e.1 ≠ e.2.1) (hl : ts.length ≤ 14) : ∀ k, k ≤ 5 → (endsK ts s g k).length ≤ k * 537824
  | 0, _ => by simp [endsK]
  | k + 1, hk => by
    have h1 := endsK_len (s := s) (g := g) h hl k (by omega)
    have h2 := endsF_len g (foundK ts s g k)
    have h3 := foundK_len (s := s) (g := g) h hl k
    have h4 := pow14 (k := k) (by omega)
    show (endsK ts s g k ++ endsF g (foundK ts s g k)).length ≤ _
    rw [List.length_append, Nat.succ_mul]
    omega
theorem small_line {n : Nat} (h : n ≤ 3000000) : n < sizeLine := by rw [sizeLine_eq]; omega
theorem ok_allw {f : Addr} {fd : FuncData} {k : Nat} (F : Fun K "_law_all_ways" "_law_all_ways" sAllW f fd) (T : BT mg) : FnOk P w K mg base CX0 (k + 1) f fd ["_law_many", "_law_ties", "_law_start", "_law_goal"] spAllW := by
  refine F.ok scAllW (fun vs H Q E h => ?_) (fun cdv A outer s H vs Q E hr h => ?_)
  · obtain ⟨n, s, g, t, ts, rfl, _⟩ := h
    rfl
  · obtain ⟨n, s, g, t, ts, rfl, hn, hT, hl, hG, kk⟩ := h
    have hne : ∀ e ∈ ts, e.1 ≠ e.2.1 := fun e m => by have := hG e m; omega
    obtain ⟨bs, htt, htp⟩ := id hT
    have hbl := paired_len htp
    refine ⟨_, (pss_cons (ps_set (i := 4) scAllW.nd rfl (.inl rfl) (pe_lst (pa_cons (pe_tup (pa_cons (pe_lst (pa_cons (pv 2) pa_nil)) (pa_cons pe_int pa_nil))) pa_nil)))
      (pss_cons (ps_set (i := 5) scAllW.nd rfl (.inl rfl) (pe_lst pa_nil))
      (pss_cons (ps_for PassesOwn.never rfl (pi_range1 (by rfl) T.range (pa_cons (pv 0) pa_nil)) (pg_name (i := 6) scAllW.nd rfl (Or.inl rfl))
        (pss_cons (ps_set (i := 7) scAllW.nd rfl (.inl rfl) (pe_lst pa_nil))
        (pss_cons (ps_for PassesOwn.never rfl (pi_list (pv 4)) (pg_tup rfl (pgs_cons (pg_name (i := 8) scAllW.nd rfl (Or.inl rfl)) (pgs_cons (pg_name (i := 9) scAllW.nd rfl (Or.inl rfl)) pgs_nil)))
          (pss_cons (ps_if (pt_cmpR op_eq (pe_ix (r := rIxL K) ix_list (pv 8) (pe_un un_neg pe_int) (fun _ _ => rfl)) (pv 3) (nomark _))
            (pss_one (ps_expr (pe_bm PySem.F.plainAttrs_list PySem.F.slot_list_append PySem.F.type_list_append mt_append (pv 5) (pa_cons (pe_tup (pa_cons (pv 9) (pa_cons (pe_callTy call_tuple_of (by rfl) T.tuple (by decide +kernel) (pa_cons (pv 8) pa_nil)) pa_nil))) pa_nil))))
            pss_nil)
          (pss_one (ps_for PassesOwn.never rfl (pi_list (pv 1)) (pg_tup rfl (pgs_cons (pg_name (i := 10) scAllW.nd rfl (Or.inl rfl)) (pgs_cons (pg_name (i := 11) scAllW.nd rfl (Or.inl rfl)) (pgs_cons (pg_name (i := 12) scAllW.nd rfl (Or.inl rfl)) pgs_nil))))
            (pss_one (ps_for PassesOwn.never rfl (pi_tup (pe_tup (pa_cons (pe_tup (pa_cons (pv 10) (pa_cons (pv 11) pa_nil))) (pa_cons (pe_tup (pa_cons (pv 11) (pa_cons (pv 10) pa_nil))) pa_nil)))) (pg_tup rfl (pgs_cons (pg_name (i := 13) scAllW.nd rfl (Or.inl rfl)) (pgs_cons (pg_name (i := 14) scAllW.nd rfl (Or.inl rfl)) pgs_nil)))
              (pss_one (ps_if (PW.pt (pw_and (pt_cmpR op_eq (pv 13) (pe_ix (r := rIxL K) ix_list (pv 8) (pe_un un_neg pe_int) (fun _ _ => rfl)) (nomark _)) (pw_and (pt_cmpR op_notIn_seq (pv 14) (pv 8) (by rfl)) (pw_and1 (pt_cmpR op_ne (pe_ix (r := rIxL K) ix_list (pv 8) (pe_un un_neg pe_int) (fun _ _ => rfl)) (pv 3) (nomark _))))))
                (pss_one (ps_expr (pe_bm PySem.F.plainAttrs_list PySem.F.slot_list_append PySem.F.type_list_append mt_append (pv 7) (pa_cons (pe_tup (pa_cons (pe_op op_cat (pv 8) (pe_lst (pa_cons (pv 14) pa_nil))) (pa_cons (pe_op op_add (pv 9) (pv 12)) pa_nil))) pa_nil))))
                pss_nil))))))))
        (pss_one (ps_set (i := 4) scAllW.nd rfl (.inl rfl) (pv 7))))))
      (pss_one (ps_ret (pv 5)))))), ?_⟩
    refine ⟨_, rfl, (by show 1 ≤ sizeLine; decide), fun l0 nl0 => ⟨(by show 2 ≤ sizeLine; decide), fun a0 na0 => ⟨(by show 1 ≤ sizeLine; decide), fun f0 nf0 => ⟨(by show 0 ≤ sizeLine; decide), fun e0 ne0 => ?_⟩⟩⟩⟩
    have u1 := same_upd (o := .lst [.int (s : Nat)]) nl0
    have u2 := same_upd (o := .tup [.ref l0, .int 0]) na0
    have u3 := same_upd (o := .lst [.ref a0]) nf0
    have u4 := same_upd (o := .lst []) ne0
    have sA : Same H _ := u1.trans (u2.trans (u3.trans u4))
    refine ⟨_, rfl, n, rfl, by omega, by omega, for_range (n := n) (fun k σ H' => ∃ fa ea y6 y7 y8 y9 y10 y11 y12 y13 y14, σ = [some (.int (n : Nat)), some (.ref t), some (.int (s : Nat)), some (.int (g : Nat)), some (.ref fa), some (.ref ea), y6, y7, y8, y9, y10, y11, y12, y13, y14] ∧ Same H H' ∧ FoundAt H' fa (foundK ts s g k) ∧ EndsAt H' ea (endsK ts s g k) ∧ fa ≠ ea ∧ H fa = none ∧ H ea = none)
      ⟨f0, e0, none, none, none, none, none, none, none, none, none, rfl, sA, ⟨[a0], u4 _ _ upd_same, .cons ⟨l0, u4 _ _ (u3 _ _ upd_same), u4 _ _ (u3 _ _ (u2 _ _ upd_same))⟩ .nil⟩, ⟨[], upd_same, .nil⟩, Ne.symm (fun z => by rw [z, upd_same] at ne0; cases ne0), (u1.trans u2).free nf0, (u1.trans (u2.trans u3)).free ne0⟩ ?_ ?_⟩
    · rintro kx σ H1 hk ⟨fa, ea, y6, y7, y8, y9, y10, y11, y12, y13, y14, rfl, s1, hFo, hEn, hfe, nfa, nea⟩
      have hfl := foundK_len (s := s) (g := g) hne hl kx
      have hp4 := pow14 (k := kx) (by omega)
      have hp5 := pow14 (k := kx + 1) (by omega)
      have hp44 : 14 ^ kx ≤ 38416 := Nat.le_trans (Nat.pow_le_pow_right (by decide) (by omega : kx ≤ 4)) (by decide)
      have hel := endsK_len (s := s) (g := g) hne hl kx (by omega)
      have hel2 := endsK_len (s := s) (g := g) hne hl (kx + 1) (by omega)
      have hfl2 := foundK_len (s := s) (g := g) hne hl (kx + 1)
      refine ⟨(by show 0 ≤ sizeLine; decide), fun lg nlg => ?_⟩
      have u5 := same_upd (o := .lst []) nlg
      obtain ⟨as, hf1, hf2⟩ := hFo
      obtain ⟨es, he1, he2⟩ := id hEn
      have hfl0 : fa ≠ lg := ne_of_none hf1 nlg
      have hel0 : ea ≠ lg := ne_of_none he1 nlg
      have hal := paired_len hf2
      have hfs : ∃ fs, fs = foundK ts s g kx := ⟨_, rfl⟩
      obtain ⟨fs, efs⟩ := hfs
      have stepE : endsK ts s g (kx + 1) = endsK ts s g kx ++ endsF g fs := by rw [efs]; rfl
      have stepK : foundK ts s g (kx + 1) = stepF ts g fs := by rw [efs]; rfl
      rw [← efs] at hf2 hal hfl
      rw [stepE] at hel2
      rw [stepK] at hfl2
      have nlgH : H lg = none := s1.free nlg
      refine ⟨_, rfl, fa, rfl, ⟨_, SqL.of (u5 _ _ hf1)⟩, for_list (K := K) (a := fa) (xs := as.map V.ref) (fun i σ H' => ∃ y8 y9 y10 y11 y12 y13 y14, σ = [some (.int (n : Nat)), some (.ref t), some (.int (s : Nat)), some (.int (g : Nat)), some (.ref fa), some (.ref ea), some (.int (0 + (kx : Int))), some (.ref lg), y8, y9, y10, y11, y12, y13, y14] ∧ Same H H' ∧ H' fa = some (.lst (as.map V.ref)) ∧ Paired (EntAt H') as fs ∧ EndsAt H' ea (endsK ts s g kx ++ endsF g (fs.take i)) ∧ FoundAt H' lg (stepF ts g (fs.take i)))
        ⟨_, _, _, _, _, _, _, rfl, s1.trans u5, u5 _ _ hf1, paired_mono (fun _ _ q => q.same u5) hf2, by rw [List.take_zero]; simpa [endsF] using hEn.same u5, ⟨[], upd_same, by rw [List.take_zero]; exact .nil⟩⟩ (fun i σ H' _ ⟨_, _, _, _, _, _, _, _, _, z, _⟩ => SqL.of z) ?_ ?_⟩
      · rintro i x σ H2 hx ⟨z8, z9, z10, z11, z12, z13, z14, rfl, s2, hfa, hPa, hE2, hL2⟩
        obtain ⟨ad, ead, rfl⟩ := map_ref_at hx
        obtain ⟨wE, ewE, hEnt⟩ := paired_at hPa i ad ead
        obtain ⟨pre, x, c⟩ := wE
        obtain ⟨l, hd1, hl2⟩ := hEnt
        have hwm : (pre, x, c) ∈ fs := List.mem_of_getElem? ewE
        have hi : i < fs.length := (List.getElem?_eq_some_iff.mp ewE).1
        have hstep : stepF ts g (fs.take (i + 1)) = stepF ts g (fs.take i) ++ extL ts g (pre, x, c) := by
          rw [take_succ_of ewE]
          unfold stepF
          rw [List.flatMap_append, List.flatMap_singleton]
        have hstepE : endsF g (fs.take (i + 1)) = endsF g (fs.take i) ++ endE g (pre, x, c) := by
          rw [take_succ_of ewE]
          unfold endsF
          rw [List.flatMap_append, List.flatMap_singleton]
        have hpl : pre.length = kx := found_pre kx (pre, x, c) (by rw [← efs]; exact hwm)
        have lenB : ∀ e1 e2 e3 j m, (stepF ts g (fs.take i) ++ extL (ts.take j) g (pre, x, c) ++ twoE g (pre, x, c) e1 e2 e3 m).length ≤ 3000000 := fun e1 e2 e3 j m => by
          have h1 := stepF_len (g := g) (fs := fs.take i) hne hl
          have h2 : (fs.take i).length ≤ fs.length := List.length_take_le' _ _
          have h3 := extL_len (ts := ts.take j) (g := g) (w := (pre, x, c)) fun e me => hne e (List.mem_of_mem_take me)
          have h4 : (ts.take j).length ≤ ts.length := List.length_take_le' _ _
          have h5 := two_len g (pre, x, c) e1 e2 e3 m
          rw [List.length_append, List.length_append]
          omega
        have hlast0 : atI (wv (pre ++ [x])) (-1) = some (.int (x : Nat)) := by
          unfold wv
          rw [List.map_append]
          exact atI_last _ _
        refine ⟨ad, _, rfl, SqT.of hd1, rfl, _, _, rfl, _, _, rfl, rfl, ?_⟩
        refine ⟨_, rfl, 1, rfl, l, _, _, _, rfl, rfl, SqL.of hl2, hlast0, _, rfl, rfl, _, rfl, ?_⟩
        by_cases hxg : x = g
        · rw [decide_eq_true (show V.int (x : Nat) = V.int (g : Nat) by rw [hxg])]
          refine iteT ?_
          obtain ⟨es2, hea2, hes2⟩ := id hE2
          have hesl := paired_len hes2
          refine ⟨_, rfl, .inl ⟨rfl, _, SqL.of hea2⟩, _, rfl, _, rfl, l, _, rfl, .inl ⟨SqL.of hl2, fun tw ntw => ⟨(by show 2 ≤ sizeLine; decide), fun pr npr => ?_⟩⟩⟩
          have g1 := same_upd (o := .tup (wv (pre ++ [x]))) ntw
          have g2 := same_upd (o := .tup [.int (c : Nat), .ref tw]) npr
          have sG : Same H2 _ := g1.trans g2
          have hEd : EndAt (upd (upd H2 tw (.tup (wv (pre ++ [x])))) pr (.tup [.int (c : Nat), .ref tw])) pr (c, pre ++ [x]) := ⟨tw, upd_same, g2 _ _ upd_same⟩
          revert sG hEd
          generalize upd (upd H2 tw (.tup (wv (pre ++ [x])))) pr (.tup [.int (c : Nat), .ref tw]) = H2b
          intro sG hEd
          have hea2b := sG _ _ hea2
          refine ⟨ea, _, _, rfl, rfl, hea2b, ?_, ?_⟩
          · rw [List.length_map, hesl, List.length_append]
            have h1 := endsF_len g (fs.take i)
            have h2 : (fs.take i).length ≤ fs.length := List.length_take_le' _ _
            exact small_line (by omega)
          have s3 : Same H (upd H2b ea (.lst (es2.map V.ref ++ [.ref pr]))) := fun b o q => by
            rw [upd_ne (ne_of_none q nea)]
            exact sG _ _ (s2 _ _ q)
          have hfa3 : (upd H2b ea (.lst (es2.map V.ref ++ [.ref pr]))) fa = some (.lst (as.map V.ref)) := by
            rw [upd_ne hfe]
            exact sG _ _ hfa
          have hPa3 : Paired (EntAt (upd H2b ea (.lst (es2.map V.ref ++ [.ref pr])))) as fs := paired_mono (fun _ _ q => (q.same sG).put hea2b) hPa
          have hE3 : EndsAt (upd H2b ea (.lst (es2.map V.ref ++ [.ref pr]))) ea (endsK ts s g kx ++ endsF g (fs.take (i + 1))) := by
            rw [hstepE, ← List.append_assoc]
            have : endE g (pre, x, c) = [(c, pre ++ [x])] := by unfold endE; rw [if_pos hxg]
            rw [this]
            exact EndsAt.app hea2b (paired_mono (fun _ _ q => q.same sG) hes2) hEd
          have hL3 : FoundAt (upd H2b ea (.lst (es2.map V.ref ++ [.ref pr]))) lg (stepF ts g (fs.take i)) := (hL2.same sG).put hea2b (Ne.symm hel0)
          have hl3 : (upd H2b ea (.lst (es2.map V.ref ++ [.ref pr]))) l = some (.lst (wv (pre ++ [x]))) := wv_put (sG _ _ hl2) hea2b
          revert s3 hfa3 hPa3 hE3 hL3 hl3
          generalize upd H2b ea (.lst (es2.map V.ref ++ [.ref pr])) = H3
          intro s3 hfa3 hPa3 hE3 hL3 hl3
          refine ⟨_, rfl, t, rfl, ⟨_, SqL.of (s3 _ _ htt)⟩, for_list (K := K) (a := t) (xs := bs.map V.ref) (fun j σ H' => ∃ y10 y11 y12 y13 y14, σ = [some (.int (n : Nat)), some (.ref t), some (.int (s : Nat)), some (.int (g : Nat)), some (.ref fa), some (.ref ea), some (.int (0 + (kx : Int))), some (.ref lg), some (.ref l), some (.int (c : Nat)), y10, y11, y12, y13, y14] ∧ Same H H' ∧ H' fa = some (.lst (as.map V.ref)) ∧ Paired (EntAt H') as fs ∧ EndsAt H' ea (endsK ts s g kx ++ endsF g (fs.take (i + 1))) ∧ FoundAt H' lg (stepF ts g (fs.take i) ++ extL (ts.take j) g (pre, x, c)) ∧ H' l = some (.lst (wv (pre ++ [x]))))
            ⟨_, _, _, _, _, rfl, s3, hfa3, hPa3, hE3, by rw [List.take_zero]; show FoundAt _ _ (_ ++ []); rw [List.append_nil]; exact hL3, hl3⟩ (fun j σ H' _ ⟨_, _, _, _, _, _, sx, _⟩ => SqL.of (sx _ _ htt)) ?_ ?_⟩
          · rintro j y σ H4 hj ⟨z10, z11, z12, z13, z14, rfl, s4, hfa4, hPa4, hE4, hL4, hl4⟩
            obtain ⟨tb, etb, rfl⟩ := map_ref_at hj
            obtain ⟨e, ee, he0⟩ := paired_at htp j tb etb
            have he := s4 _ _ he0
            obtain ⟨e1, e2, e3⟩ := e
            refine ⟨tb, tv (e1, e2, e3), rfl, SqT.of he, rfl, _, _, rfl, _, _, rfl, _, _, rfl, rfl, ?_⟩
            have hx1 : extL (ts.take (j + 1)) g (pre, x, c) = extL (ts.take j) g (pre, x, c) ++ (joinE g (pre, x, c) e1 e2 e3 ++ joinE g (pre, x, c) e2 e1 e3) := by
              rw [take_succ_of ee]
              unfold extL
              rw [List.flatMap_append, List.flatMap_singleton]
              rfl
            refine ⟨_, rfl, _, rfl, (by show 2 ≤ sizeLine; decide), fun p1 np1 => ⟨_, rfl, _, rfl, (by show 2 ≤ sizeLine; decide), fun p2 np2 => ⟨(by show 2 ≤ sizeLine; decide), fun p3 np3 => ?_⟩⟩⟩
            have v1 := same_upd (o := .tup [.int (e1 : Nat), .int (e2 : Nat)]) np1
            have v2 := same_upd (o := .tup [.int (e2 : Nat), .int (e1 : Nat)]) np2
            have v3 := same_upd (o := .tup [.ref p1, .ref p2]) np3
            have sV : Same H4 _ := v1.trans (v2.trans v3)
            have q1 := v3 _ _ (v2 _ _ (upd_same (H := H4) (a := p1) (o := .tup [.int (e1 : Nat), .int (e2 : Nat)])))
            have q2 := v3 _ _ (upd_same (H := upd H4 p1 (.tup [.int (e1 : Nat), .int (e2 : Nat)])) (a := p2) (o := .tup [.int (e2 : Nat), .int (e1 : Nat)]))
            have q3 := upd_same (H := upd (upd H4 p1 (.tup [.int (e1 : Nat), .int (e2 : Nat)])) p2 (.tup [.int (e2 : Nat), .int (e1 : Nat)])) (a := p3) (o := .tup [.ref p1, .ref p2])
            revert sV q1 q2 q3
            generalize upd (upd (upd H4 p1 (.tup [.int (e1 : Nat), .int (e2 : Nat)])) p2 (.tup [.int (e2 : Nat), .int (e1 : Nat)])) p3 (.tup [.ref p1, .ref p2]) = H5
            intro sV q1 q2 q3
            refine ⟨p3, rfl, ⟨_, SqT.of q3⟩, for_tup (K := K) (a := p3) (xs := [.ref p1, .ref p2]) (fun m σ H' => ∃ y13 y14, σ = [some (.int (n : Nat)), some (.ref t), some (.int (s : Nat)), some (.int (g : Nat)), some (.ref fa), some (.ref ea), some (.int (0 + (kx : Int))), some (.ref lg), some (.ref l), some (.int (c : Nat)), some (.int (e1 : Nat)), some (.int (e2 : Nat)), some (.int (e3 : Nat)), y13, y14] ∧ Same H H' ∧ (H' p1 = some (.tup [.int (e1 : Nat), .int (e2 : Nat)]) ∧ H' p2 = some (.tup [.int (e2 : Nat), .int (e1 : Nat)]) ∧ H' p3 = some (.tup [.ref p1, .ref p2])) ∧ H' fa = some (.lst (as.map V.ref)) ∧ Paired (EntAt H') as fs ∧ EndsAt H' ea (endsK ts s g kx ++ endsF g (fs.take (i + 1))) ∧ FoundAt H' lg (stepF ts g (fs.take i) ++ extL (ts.take j) g (pre, x, c) ++ twoE g (pre, x, c) e1 e2 e3 m) ∧ H' l = some (.lst (wv (pre ++ [x]))))
              ⟨_, _, rfl, s4.trans sV, ⟨q1, q2, q3⟩, sV _ _ hfa4, paired_mono (fun _ _ q => q.same sV) hPa4, hE4.same sV, by show FoundAt _ _ (_ ++ []); rw [List.append_nil]; exact hL4.same sV, sV _ _ hl4⟩ (fun m σ H' _ ⟨_, _, _, _, ⟨_, _, z⟩, _⟩ => SqT.of z) ?_ ?_⟩
            · rintro m y σ H6 hm ⟨x13, x14, rfl, s6, ⟨r1, r2, r3⟩, hfa6, hPa6, hE6, hL6, hl6⟩
              have item : ∃ (py : Addr) (a b : Nat), y = .ref py ∧ H6 py = some (.tup [.int (a : Nat), .int (b : Nat)]) ∧ twoE g (pre, x, c) e1 e2 e3 (m + 1) = twoE g (pre, x, c) e1 e2 e3 m ++ joinE g (pre, x, c) a b e3 := by
                match m, hm with
                | 0, hm => cases hm; exact ⟨p1, e1, e2, rfl, r1, by simp [twoE]⟩
                | 1, hm => cases hm; exact ⟨p2, e2, e1, rfl, r2, by simp [twoE]⟩
                | m + 2, hm => simp at hm
              obtain ⟨py, a, b, rfl, hpy, htwo⟩ := item
              have lenL : (stepF ts g (fs.take i) ++ extL (ts.take j) g (pre, x, c) ++ twoE g (pre, x, c) e1 e2 e3 m).length < sizeLine := small_line (lenB e1 e2 e3 j m)
              have hlast : atI (wv (pre ++ [x])) (-1) = some (.int (x : Nat)) := by
                unfold wv
                rw [List.map_append]
                exact atI_last _ _
              refine ⟨py, _, rfl, SqT.of hpy, rfl, _, _, rfl, _, _, rfl, rfl, ?_⟩
              have no : joinE g (pre, x, c) a b e3 = [] → ∃ y13 y14, [some (V.int (n : Nat)), some (.ref t), some (.int (s : Nat)), some (.int (g : Nat)), some (.ref fa), some (.ref ea), some (.int (0 + (kx : Int))), some (.ref lg), some (.ref l), some (.int (c : Nat)), some (.int (e1 : Nat)), some (.int (e2 : Nat)), some (.int (e3 : Nat)), some (.int (a : Nat)), some (.int (b : Nat))] = [some (.int (n : Nat)), some (.ref t), some (.int (s : Nat)), some (.int (g : Nat)), some (.ref fa), some (.ref ea), some (.int (0 + (kx : Int))), some (.ref lg), some (.ref l), some (.int (c : Nat)), some (.int (e1 : Nat)), some (.int (e2 : Nat)), some (.int (e3 : Nat)), y13, y14] ∧ Same H H6 ∧ (H6 p1 = some (.tup [.int (e1 : Nat), .int (e2 : Nat)]) ∧ H6 p2 = some (.tup [.int (e2 : Nat), .int (e1 : Nat)]) ∧ H6 p3 = some (.tup [.ref p1, .ref p2])) ∧ H6 fa = some (.lst (as.map V.ref)) ∧ Paired (EntAt H6) as fs ∧ EndsAt H6 ea (endsK ts s g kx ++ endsF g (fs.take (i + 1))) ∧ FoundAt H6 lg (stepF ts g (fs.take i) ++ extL (ts.take j) g (pre, x, c) ++ twoE g (pre, x, c) e1 e2 e3 (m + 1)) ∧ H6 l = some (.lst (wv (pre ++ [x]))) := fun z => ⟨_, _, rfl, s6, ⟨r1, r2, r3⟩, hfa6, hPa6, hE6, by rw [htwo, z, List.append_nil]; exact hL6, hl6⟩
              refine ⟨_, rfl, _, rfl, 1, rfl, l, _, _, _, rfl, rfl, SqL.of hl6, hlast, rfl, _, rfl, ?_⟩
              by_cases c1 : a = x
              · subst c1
                rw [decide_eq_true rfl]
                refine iteT ?_
                refine ⟨_, rfl, _, rfl, l, _, rfl, .inl (SqL.of hl6), rfl, flat_wv _, _, rfl, ?_⟩
                rw [inV_wv]
                by_cases c2 : b ∈ pre ++ [a]
                · rw [decide_eq_true c2]
                  refine iteF ?_
                  exact no (by unfold joinE; rw [if_neg (fun z => z.2.1 c2)])
                · rw [decide_eq_false c2]
                  refine iteT ?_
                  refine ⟨_, rfl, 1, rfl, l, _, _, _, rfl, rfl, SqL.of hl6, hlast, _, rfl, rfl, _, rfl, ?_⟩
                  by_cases c3 : a = g
                  · subst c3
                    refine iteNS rfl ?_
                    exact no (by unfold joinE; rw [if_neg (fun z => z.2.2 rfl)])
                  · have hne3 : ¬ V.int (a : Nat) = V.int (g : Nat) := fun z => c3 (by have := V.int.inj z; omega)
                    rw [decide_eq_false hne3]
                    refine iteT ?_
                    have hj : joinE g (pre, a, c) a b e3 = [(pre ++ [a], b, c + e3)] := by unfold joinE; rw [if_pos ⟨rfl, c2, c3⟩]
                    obtain ⟨ls, hlg6, hls6⟩ := id hL6
                    have hlsl := paired_len hls6
                    refine ⟨_, rfl, .inl ⟨rfl, _, SqL.of hlg6⟩, _, rfl, _, rfl, (by show 1 ≤ sizeLine; decide), fun w1 nw1 => ?_⟩
                    have g1 := same_upd (o := .lst [.int (b : Nat)]) nw1
                    refine ⟨l, w1, _, _, rfl, rfl, g1 _ _ hl6, upd_same, (Nat.le_of_lt (small_line (by unfold wv; rw [List.length_map, List.length_append]; show pre.length + 1 + 1 ≤ 3000000; omega))), fun w2 nw2 => ?_⟩
                    have g2 := same_upd (o := .lst (wv (pre ++ [a]) ++ [.int (b : Nat)])) nw2
                    refine ⟨_, rfl, _, rfl, _, _, rfl, rfl, (by show 2 ≤ sizeLine; decide), fun w3 nw3 => ?_⟩
                    have g3 := same_upd (o := .tup [.ref w2, .int ((c : Int) + (e3 : Int))]) nw3
                    have sG : Same H6 _ := g1.trans (g2.trans g3)
                    have hE7 : EntAt (upd (upd (upd H6 w1 (.lst [.int (b : Nat)])) w2 (.lst (wv (pre ++ [a]) ++ [.int (b : Nat)]))) w3 (.tup [.ref w2, .int ((c : Int) + (e3 : Int))])) w3 (pre ++ [a], b, c + e3) := ⟨w2, upd_same, by
                      rw [g3 _ _ upd_same]
                      unfold wv
                      rw [List.map_append (l₁ := pre ++ [a])]
                      rfl⟩
                    revert sG hE7
                    generalize upd (upd (upd H6 w1 (.lst [.int (b : Nat)])) w2 (.lst (wv (pre ++ [a]) ++ [.int (b : Nat)]))) w3 (.tup [.ref w2, .int ((c : Int) + (e3 : Int))]) = H7
                    intro sG hE7
                    have hlg7 := sG _ _ hlg6
                    have hls7 := paired_mono (fun _ _ q => q.same sG) hls6
                    refine ⟨lg, _, _, rfl, rfl, hlg7, (by rw [List.length_map, hlsl]; exact lenL), ?_⟩
                    have keep : ∀ b o, H b = some o → upd H7 lg (.lst (ls.map V.ref ++ [.ref w3])) b = some o := fun b o q => by
                      rw [upd_ne (ne_of_none q nlgH)]
                      exact sG _ _ (s6 _ _ q)
                    refine ⟨_, _, rfl, keep, ⟨?_, ?_, ?_⟩, ?_, paired_mono (fun _ _ q => (q.same sG).put hlg7) hPa6, (hE6.same sG).put hlg7 hel0, ?_, wv_put (sG _ _ hl6) hlg7⟩
                    · rw [upd_ne (ne_of (sG _ _ r1) hlg7 (fun z => by cases z))]; exact sG _ _ r1
                    · rw [upd_ne (ne_of (sG _ _ r2) hlg7 (fun z => by cases z))]; exact sG _ _ r2
                    · rw [upd_ne (ne_of (sG _ _ r3) hlg7 (fun z => by cases z))]; exact sG _ _ r3
                    · rw [upd_ne hfl0]; exact sG _ _ hfa6
                    · rw [htwo, hj, ← List.append_assoc]
                      exact FoundAt.app hlg7 hls7 hE7
              · have hne1 : ¬ V.int (a : Nat) = V.int (x : Nat) := fun z => c1 (by have := V.int.inj z; omega)
                rw [decide_eq_false hne1]
                refine iteF ?_
                exact no (by unfold joinE; rw [if_neg (fun z => c1 z.1)])
            · rintro σ H6 ⟨x13, x14, rfl, s6, ⟨r1, r2, r3⟩, hfa6, hPa6, hE6, hL6, hl6⟩
              refine ⟨_, _, _, _, _, rfl, s6, hfa6, hPa6, hE6, ?_, hl6⟩
              rw [hx1, ← List.append_assoc]
              exact hL6
          · rintro σ H4 ⟨z10, z11, z12, z13, z14, rfl, s4, hfa4, hPa4, hE4, hL4, hl4⟩
            rw [List.length_map, hbl, List.take_length] at hL4
            refine ⟨_, _, _, _, _, _, _, rfl, s4, hfa4, hPa4, hE4, ?_⟩
            rw [hstep]
            exact hL4
        · have hneg : ¬ V.int (x : Nat) = V.int (g : Nat) := fun z => hxg (by have := V.int.inj z; omega)
          rw [decide_eq_false hneg]
          refine iteF ?_
          have s3 := s2
          have hfa3 := hfa
          have hPa3 := hPa
          have hE3 : EndsAt H2 ea (endsK ts s g kx ++ endsF g (fs.take (i + 1))) := by
            rw [hstepE]
            have : endE g (pre, x, c) = [] := by unfold endE; rw [if_neg hxg]
            rw [this, List.append_nil]
            exact hE2
          have hL3 := hL2
          have hl3 := hl2
          refine ⟨_, rfl, t, rfl, ⟨_, SqL.of (s3 _ _ htt)⟩, for_list (K := K) (a := t) (xs := bs.map V.ref) (fun j σ H' => ∃ y10 y11 y12 y13 y14, σ = [some (.int (n : Nat)), some (.ref t), some (.int (s : Nat)), some (.int (g : Nat)), some (.ref fa), some (.ref ea), some (.int (0 + (kx : Int))), some (.ref lg), some (.ref l), some (.int (c : Nat)), y10, y11, y12, y13, y14] ∧ Same H H' ∧ H' fa = some (.lst (as.map V.ref)) ∧ Paired (EntAt H') as fs ∧ EndsAt H' ea (endsK ts s g kx ++ endsF g (fs.take (i + 1))) ∧ FoundAt H' lg (stepF ts g (fs.take i) ++ extL (ts.take j) g (pre, x, c)) ∧ H' l = some (.lst (wv (pre ++ [x]))))
            ⟨_, _, _, _, _, rfl, s3, hfa3, hPa3, hE3, by rw [List.take_zero]; show FoundAt _ _ (_ ++ []); rw [List.append_nil]; exact hL3, hl3⟩ (fun j σ H' _ ⟨_, _, _, _, _, _, sx, _⟩ => SqL.of (sx _ _ htt)) ?_ ?_⟩
          · rintro j y σ H4 hj ⟨z10, z11, z12, z13, z14, rfl, s4, hfa4, hPa4, hE4, hL4, hl4⟩
            obtain ⟨tb, etb, rfl⟩ := map_ref_at hj
            obtain ⟨e, ee, he0⟩ := paired_at htp j tb etb
            have he := s4 _ _ he0
            obtain ⟨e1, e2, e3⟩ := e
            refine ⟨tb, tv (e1, e2, e3), rfl, SqT.of he, rfl, _, _, rfl, _, _, rfl, _, _, rfl, rfl, ?_⟩
            have hx1 : extL (ts.take (j + 1)) g (pre, x, c) = extL (ts.take j) g (pre, x, c) ++ (joinE g (pre, x, c) e1 e2 e3 ++ joinE g (pre, x, c) e2 e1 e3) := by
              rw [take_succ_of ee]
              unfold extL
              rw [List.flatMap_append, List.flatMap_singleton]
              rfl
            refine ⟨_, rfl, _, rfl, (by show 2 ≤ sizeLine; decide), fun p1 np1 => ⟨_, rfl, _, rfl, (by show 2 ≤ sizeLine; decide), fun p2 np2 => ⟨(by show 2 ≤ sizeLine; decide), fun p3 np3 => ?_⟩⟩⟩
            have v1 := same_upd (o := .tup [.int (e1 : Nat), .int (e2 : Nat)]) np1
            have v2 := same_upd (o := .tup [.int (e2 : Nat), .int (e1 : Nat)]) np2
            have v3 := same_upd (o := .tup [.ref p1, .ref p2]) np3
            have sV : Same H4 _ := v1.trans (v2.trans v3)
            have q1 := v3 _ _ (v2 _ _ (upd_same (H := H4) (a := p1) (o := .tup [.int (e1 : Nat), .int (e2 : Nat)])))
            have q2 := v3 _ _ (upd_same (H := upd H4 p1 (.tup [.int (e1 : Nat), .int (e2 : Nat)])) (a := p2) (o := .tup [.int (e2 : Nat), .int (e1 : Nat)]))
            have q3 := upd_same (H := upd (upd H4 p1 (.tup [.int (e1 : Nat), .int (e2 : Nat)])) p2 (.tup [.int (e2 : Nat), .int (e1 : Nat)])) (a := p3) (o := .tup [.ref p1, .ref p2])
            revert sV q1 q2 q3
            generalize upd (upd (upd H4 p1 (.tup [.int (e1 : Nat), .int (e2 : Nat)])) p2 (.tup [.int (e2 : Nat), .int (e1 : Nat)])) p3 (.tup [.ref p1, .ref p2]) = H5
            intro sV q1 q2 q3
            refine ⟨p3, rfl, ⟨_, SqT.of q3⟩, for_tup (K := K) (a := p3) (xs := [.ref p1, .ref p2]) (fun m σ H' => ∃ y13 y14, σ = [some (.int (n : Nat)), some (.ref t), some (.int (s : Nat)), some (.int (g : Nat)), some (.ref fa), some (.ref ea), some (.int (0 + (kx : Int))), some (.ref lg), some (.ref l), some (.int (c : Nat)), some (.int (e1 : Nat)), some (.int (e2 : Nat)), some (.int (e3 : Nat)), y13, y14] ∧ Same H H' ∧ (H' p1 = some (.tup [.int (e1 : Nat), .int (e2 : Nat)]) ∧ H' p2 = some (.tup [.int (e2 : Nat), .int (e1 : Nat)]) ∧ H' p3 = some (.tup [.ref p1, .ref p2])) ∧ H' fa = some (.lst (as.map V.ref)) ∧ Paired (EntAt H') as fs ∧ EndsAt H' ea (endsK ts s g kx ++ endsF g (fs.take (i + 1))) ∧ FoundAt H' lg (stepF ts g (fs.take i) ++ extL (ts.take j) g (pre, x, c) ++ twoE g (pre, x, c) e1 e2 e3 m) ∧ H' l = some (.lst (wv (pre ++ [x]))))
              ⟨_, _, rfl, s4.trans sV, ⟨q1, q2, q3⟩, sV _ _ hfa4, paired_mono (fun _ _ q => q.same sV) hPa4, hE4.same sV, by show FoundAt _ _ (_ ++ []); rw [List.append_nil]; exact hL4.same sV, sV _ _ hl4⟩ (fun m σ H' _ ⟨_, _, _, _, ⟨_, _, z⟩, _⟩ => SqT.of z) ?_ ?_⟩
            · rintro m y σ H6 hm ⟨x13, x14, rfl, s6, ⟨r1, r2, r3⟩, hfa6, hPa6, hE6, hL6, hl6⟩
              have item : ∃ (py : Addr) (a b : Nat), y = .ref py ∧ H6 py = some (.tup [.int (a : Nat), .int (b : Nat)]) ∧ twoE g (pre, x, c) e1 e2 e3 (m + 1) = twoE g (pre, x, c) e1 e2 e3 m ++ joinE g (pre, x, c) a b e3 := by
                match m, hm with
                | 0, hm => cases hm; exact ⟨p1, e1, e2, rfl, r1, by simp [twoE]⟩
                | 1, hm => cases hm; exact ⟨p2, e2, e1, rfl, r2, by simp [twoE]⟩
                | m + 2, hm => simp at hm
              obtain ⟨py, a, b, rfl, hpy, htwo⟩ := item
              have lenL : (stepF ts g (fs.take i) ++ extL (ts.take j) g (pre, x, c) ++ twoE g (pre, x, c) e1 e2 e3 m).length < sizeLine := small_line (lenB e1 e2 e3 j m)
              have hlast : atI (wv (pre ++ [x])) (-1) = some (.int (x : Nat)) := by
                unfold wv
                rw [List.map_append]
                exact atI_last _ _
              refine ⟨py, _, rfl, SqT.of hpy, rfl, _, _, rfl, _, _, rfl, rfl, ?_⟩
              have no : joinE g (pre, x, c) a b e3 = [] → ∃ y13 y14, [some (V.int (n : Nat)), some (.ref t), some (.int (s : Nat)), some (.int (g : Nat)), some (.ref fa), some (.ref ea), some (.int (0 + (kx : Int))), some (.ref lg), some (.ref l), some (.int (c : Nat)), some (.int (e1 : Nat)), some (.int (e2 : Nat)), some (.int (e3 : Nat)), some (.int (a : Nat)), some (.int (b : Nat))] = [some (.int (n : Nat)), some (.ref t), some (.int (s : Nat)), some (.int (g : Nat)), some (.ref fa), some (.ref ea), some (.int (0 + (kx : Int))), some (.ref lg), some (.ref l), some (.int (c : Nat)), some (.int (e1 : Nat)), some (.int (e2 : Nat)), some (.int (e3 : Nat)), y13, y14] ∧ Same H H6 ∧ (H6 p1 = some (.tup [.int (e1 : Nat), .int (e2 : Nat)]) ∧ H6 p2 = some (.tup [.int (e2 : Nat), .int (e1 : Nat)]) ∧ H6 p3 = some (.tup [.ref p1, .ref p2])) ∧ H6 fa = some (.lst (as.map V.ref)) ∧ Paired (EntAt H6) as fs ∧ EndsAt H6 ea (endsK ts s g kx ++ endsF g (fs.take (i + 1))) ∧ FoundAt H6 lg (stepF ts g (fs.take i) ++ extL (ts.take j) g (pre, x, c) ++ twoE g (pre, x, c) e1 e2 e3 (m + 1)) ∧ H6 l = some (.lst (wv (pre ++ [x]))) := fun z => ⟨_, _, rfl, s6, ⟨r1, r2, r3⟩, hfa6, hPa6, hE6, by rw [htwo, z, List.append_nil]; exact hL6, hl6⟩
              refine ⟨_, rfl, _, rfl, 1, rfl, l, _, _, _, rfl, rfl, SqL.of hl6, hlast, rfl, _, rfl, ?_⟩
              by_cases c1 : a = x
              · subst c1
                rw [decide_eq_true rfl]
                refine iteT ?_
                refine ⟨_, rfl, _, rfl, l, _, rfl, .inl (SqL.of hl6), rfl, flat_wv _, _, rfl, ?_⟩
                rw [inV_wv]
                by_cases c2 : b ∈ pre ++ [a]
                · rw [decide_eq_true c2]
                  refine iteF ?_
                  exact no (by unfold joinE; rw [if_neg (fun z => z.2.1 c2)])
                · rw [decide_eq_false c2]
                  refine iteT ?_
                  refine ⟨_, rfl, 1, rfl, l, _, _, _, rfl, rfl, SqL.of hl6, hlast, _, rfl, rfl, _, rfl, ?_⟩
                  by_cases c3 : a = g
                  · subst c3
                    refine iteNS rfl ?_
                    exact no (by unfold joinE; rw [if_neg (fun z => z.2.2 rfl)])
                  · have hne3 : ¬ V.int (a : Nat) = V.int (g : Nat) := fun z => c3 (by have := V.int.inj z; omega)
                    rw [decide_eq_false hne3]
                    refine iteT ?_
                    have hj : joinE g (pre, a, c) a b e3 = [(pre ++ [a], b, c + e3)] := by unfold joinE; rw [if_pos ⟨rfl, c2, c3⟩]
                    obtain ⟨ls, hlg6, hls6⟩ := id hL6
                    have hlsl := paired_len hls6
                    refine ⟨_, rfl, .inl ⟨rfl, _, SqL.of hlg6⟩, _, rfl, _, rfl, (by show 1 ≤ sizeLine; decide), fun w1 nw1 => ?_⟩
                    have g1 := same_upd (o := .lst [.int (b : Nat)]) nw1
                    refine ⟨l, w1, _, _, rfl, rfl, g1 _ _ hl6, upd_same, (Nat.le_of_lt (small_line (by unfold wv; rw [List.length_map, List.length_append]; show pre.length + 1 + 1 ≤ 3000000; omega))), fun w2 nw2 => ?_⟩
                    have g2 := same_upd (o := .lst (wv (pre ++ [a]) ++ [.int (b : Nat)])) nw2
                    refine ⟨_, rfl, _, rfl, _, _, rfl, rfl, (by show 2 ≤ sizeLine; decide), fun w3 nw3 => ?_⟩
                    have g3 := same_upd (o := .tup [.ref w2, .int ((c : Int) + (e3 : Int))]) nw3
                    have sG : Same H6 _ := g1.trans (g2.trans g3)
                    have hE7 : EntAt (upd (upd (upd H6 w1 (.lst [.int (b : Nat)])) w2 (.lst (wv (pre ++ [a]) ++ [.int (b : Nat)]))) w3 (.tup [.ref w2, .int ((c : Int) + (e3 : Int))])) w3 (pre ++ [a], b, c + e3) := ⟨w2, upd_same, by
                      rw [g3 _ _ upd_same]
                      unfold wv
                      rw [List.map_append (l₁ := pre ++ [a])]
                      rfl⟩
                    revert sG hE7
                    generalize upd (upd (upd H6 w1 (.lst [.int (b : Nat)])) w2 (.lst (wv (pre ++ [a]) ++ [.int (b : Nat)]))) w3 (.tup [.ref w2, .int ((c : Int) + (e3 : Int))]) = H7
                    intro sG hE7
                    have hlg7 := sG _ _ hlg6
                    have hls7 := paired_mono (fun _ _ q => q.same sG) hls6
                    refine ⟨lg, _, _, rfl, rfl, hlg7, (by rw [List.length_map, hlsl]; exact lenL), ?_⟩
                    have keep : ∀ b o, H b = some o → upd H7 lg (.lst (ls.map V.ref ++ [.ref w3])) b = some o := fun b o q => by
                      rw [upd_ne (ne_of_none q nlgH)]
                      exact sG _ _ (s6 _ _ q)
                    refine ⟨_, _, rfl, keep, ⟨?_, ?_, ?_⟩, ?_, paired_mono (fun _ _ q => (q.same sG).put hlg7) hPa6, (hE6.same sG).put hlg7 hel0, ?_, wv_put (sG _ _ hl6) hlg7⟩
                    · rw [upd_ne (ne_of (sG _ _ r1) hlg7 (fun z => by cases z))]; exact sG _ _ r1
                    · rw [upd_ne (ne_of (sG _ _ r2) hlg7 (fun z => by cases z))]; exact sG _ _ r2
                    · rw [upd_ne (ne_of (sG _ _ r3) hlg7 (fun z => by cases z))]; exact sG _ _ r3
                    · rw [upd_ne hfl0]; exact sG _ _ hfa6
                    · rw [htwo, hj, ← List.append_assoc]
                      exact FoundAt.app hlg7 hls7 hE7
              · have hne1 : ¬ V.int (a : Nat) = V.int (x : Nat) := fun z => c1 (by have := V.int.inj z; omega)
                rw [decide_eq_false hne1]
                refine iteF ?_
                exact no (by unfold joinE; rw [if_neg (fun z => c1 z.1)])
            · rintro σ H6 ⟨x13, x14, rfl, s6, ⟨r1, r2, r3⟩, hfa6, hPa6, hE6, hL6, hl6⟩
              refine ⟨_, _, _, _, _, rfl, s6, hfa6, hPa6, hE6, ?_, hl6⟩
              rw [hx1, ← List.append_assoc]
              exact hL6
          · rintro σ H4 ⟨z10, z11, z12, z13, z14, rfl, s4, hfa4, hPa4, hE4, hL4, hl4⟩
            rw [List.length_map, hbl, List.take_length] at hL4
            refine ⟨_, _, _, _, _, _, _, rfl, s4, hfa4, hPa4, hE4, ?_⟩
            rw [hstep]
            exact hL4
      · rintro σ H2 ⟨z8, z9, z10, z11, z12, z13, z14, rfl, s2, hfa, hPa, hE2, hL2⟩
        rw [List.length_map, hal, List.take_length] at hE2 hL2
        refine ⟨_, rfl, ?_⟩
        exact ⟨lg, ea, _, _, _, _, _, _, _, _, _, rfl, s2, by rw [stepK]; exact hL2, by rw [stepE]; exact hE2, Ne.symm hel0, nlgH, nea⟩
    · rintro σ H1 ⟨fa, ea, y6, y7, y8, y9, y10, y11, y12, y13, y14, rfl, s1, hFo, hEn, hfe, nfa, nea⟩
      have hel := endsK_len (s := s) (g := g) hne hl n hn
      exact ⟨_, rfl, kk ea H1 nea s1 hEn (by omega)⟩
end
end K

namespace K
open PySem PySem.Spec PyProof.Rows L2
open Sw (T3 Dist at? relax roundOf rounds IsNext Cand IsFar nbr candL WayTo lotOf)
abbrev sLaw : Stmt := top 21
theorem eqv_flats {H : Hp} {a b : Addr} {xs : List V} {m : Nat} (h1 : H a = some (.lst xs)) (h2 : H b = some (.lst xs)) (hf : ∀ v ∈ xs, flat v = true) (hl : xs.length ≤ 1000) : Eqv (m + 2) H (.ref a) (.ref b) := by
  refine .inr ⟨a, b, _, _, rfl, rfl, .inl ⟨h1, h2⟩, rfl, hl, fun i u v hu hv => ?_⟩
  rw [hu] at hv
  cases hv
  exact .inl ⟨rfl, hf _ (List.mem_of_getElem? hu)⟩
theorem eqv_flatt {H : Hp} {a b : Addr} {xs : List V} {m : Nat} (h1 : H a = some (.tup xs)) (h2 : H b = some (.tup xs)) (hf : ∀ v ∈ xs, flat v = true) (hl : xs.length ≤ 1000) : Eqv (m + 2) H (.ref a) (.ref b) := by
  refine .inr ⟨a, b, _, _, rfl, rfl, .inr ⟨h1, h2⟩, rfl, hl, fun i u v hu hv => ?_⟩
  rw [hu] at hv
  cases hv
  exact .inl ⟨rfl, hf _ (List.mem_of_getElem? hu)⟩
theorem eqv_pair {H : Hp} {a b : Addr} {x u v : V} {m : Nat} (h1 : H a = some (.tup [x, u])) (h2 : H b = some (.tup [x, v])) (hx : flat x = true) (h : Eqv (m + 1) H u v) : Eqv (m + 2) H (.ref a) (.ref b) := by
  refine .inr ⟨a, b, _, _, rfl, rfl, .inr ⟨h1, h2⟩, rfl, by show 2 ≤ 1000; decide, fun i y z hy hz => ?_⟩
  match i, hy, hz with
  | 0, hy, hz => cases hy; cases hz; exact .inl ⟨rfl, hx⟩
  | 1, hy, hz => cases hy; cases hz; exact h
  | i + 2, hy, hz => simp at hy
theorem flat_ints (l : List Nat) : ∀ v ∈ l.map (fun h => V.int (h : Nat)), flat v = true := fun v m => by
  obtain ⟨h, _, rfl⟩ := List.mem_map.mp m
  rfl
theorem log_small {i : Int} (h : i.natAbs ≤ 100) : i.natAbs.log2 < 1920 := Nat.lt_of_le_of_lt (Nat.log2_le_self _) (by omega)
theorem dp_intsA {K : PySem.W.Frag} {H : Hp} : ∀ l : List Nat, DpAll K H (wv l) (l.map fun h => PyData.int (h : Nat))
  | [] => .nil
  | h :: l => .cons (.int _) (dp_intsA l)
theorem dp_end {K : PySem.W.Frag} {H : Hp} {a : Addr} {x : Nat × List Nat} (h : EndAt H a x) : Dp K H (.ref a) (endD x) := by
  obtain ⟨l, h1, h2⟩ := h
  exact .tup (SqT.of h1) (.cons (.int _) (.cons (.tup (SqT.of h2) (dp_intsA x.2)) .nil))
theorem dp_ends {K : PySem.W.Frag} {H : Hp} {p : Addr} {es : List (Nat × List Nat)} (h : EndsAt H p es) : Dp K H (.ref p) (.list (es.map endD)) := by
  obtain ⟨as, h1, h2⟩ := h
  refine .lst (SqL.of h1) ?_
  clear h1
  induction h2 with
  | nil => exact .nil
  | cons r _ ih => exact .cons (dp_end r) ih
section
variable {P : Program} {w : World} {K : PySem.W.Frag} {mg : Str → Option Value} {base : Heap}
theorem scLaw : FnScope ["_law_script", "_law_box_here", "_law_many", "_law_ties", "_law_names", "_law_fresh", "_law_one", "_law_other", "_law_cost", "_law_goal", "_law_told", "_law_start", "_law_ends", "_law_least", "_law_way"] ["_law_script"] (defScope sLaw) := ⟨rfl, rfl, rfl, by decide +kernel, rfl, by decide +kernel, by decide +kernel⟩
theorem ok_law {f CH CW fB fT fS fM fU fA fF fL : Addr} {fd fdB fdT fdS fdM fdU fdA fdF fdL : FuncData} (F : Fun K "law" "law" sLaw f fd) (T : BT mg)
    (c_law_box : Cal P w K mg base 12 "_law_box" fB fdB ["_law_script"] (spBox K)) (c_law_take : Cal P w K mg base 12 "_law_take" fT fdT ["_law_box_here", "_law_sides"] spTake)
    (c_law_same : Cal P w K mg base 12 "_law_same" fS fdS ["_law_found", "_law_due"] (spSame 12)) (c_law_shuffled : Cal P w K mg base 12 "_law_shuffled" fU fdU ["_law_box_here", "_law_some"] spShuf) (c_law_some_ties : Cal P w K mg base 12 "_law_some_ties" fM fdM ["_law_box_here", "_law_many", "_law_odds"] spSome)
    (c_law_all_ways : Cal P w K mg base 12 "_law_all_ways" fA fdA ["_law_many", "_law_ties", "_law_start", "_law_goal"] spAllW) (cfar : Cal P w K mg base 12 "far" fF fdF ["many", "ties", "goal"] spFar)
    (cleast_way : CalX P w K mg base 12 "least_way" fL fdL ["many", "ties", "start", "goal"] (spLeastX CH CW)) : FnOk P w K mg base CX0 13 f fd ["_law_script"] (spLaw K) := by
  refine F.ok scLaw (fun vs H Q E h => ?_) (fun cdv A outer s H vs Q E hr h => ?_)
  · obtain ⟨a, ns, rfl, _⟩ := h
    rfl
  · obtain ⟨a, ns, rfl, hS, hlen, kk⟩ := h
    refine ⟨_, (pss_cons (ps_set (i := 1) scLaw.nd rfl (.inl rfl) (pe_call c_law_box.ok hr (by rfl) c_law_box.g c_law_box.kp c_law_box.b .nil pass0 (pa_cons (pv 0) pa_nil)))
      (pss_cons (ps_set (i := 2) scLaw.nd rfl (.inl rfl) (pe_op op_add pe_int (pe_call c_law_take.ok hr (by rfl) c_law_take.g c_law_take.kp c_law_take.b .nil pass0 (pa_cons (pv 1) (pa_cons pe_int pa_nil)))))
      (pss_cons (ps_set (i := 3) scLaw.nd rfl (.inl rfl) (pe_call c_law_some_ties.ok hr (by rfl) c_law_some_ties.g c_law_some_ties.kp c_law_some_ties.b .nil pass0 (pa_cons (pv 1) (pa_cons (pv 2) (pa_cons (pe_op op_add pe_int (pe_call c_law_take.ok hr (by rfl) c_law_take.g c_law_take.kp c_law_take.b .nil pass0 (pa_cons (pv 1) (pa_cons pe_int pa_nil)))) pa_nil)))))
      (pss_cons (ps_set (i := 4) scLaw.nd rfl (.inr rfl) (pe_call c_law_shuffled.ok hr (by rfl) c_law_shuffled.g c_law_shuffled.kp c_law_shuffled.b .nil pass0 (pa_cons (pv 1) (pa_cons (pe_callTy (call_list_rng rfl) (by rfl) T.list (by decide +kernel) (pa_cons (pe_callTy cr_range1 (by rfl) T.range (by decide +kernel) (pa_cons (pv 2) pa_nil)) pa_nil)) pa_nil))))
      (pss_cons (ps_setLc (i := 5) (own := [("_law_one", 6), ("_law_other", 7), ("_law_cost", 8)]) (g := (gTup K 3 (gCons (gName 6) (gCons (gName 7) (gCons (gName 8) gNil))))) (tt := tYes) rfl scLaw.nd rfl rfl (sw_true rfl rfl rfl (by decide +kernel)) (by exact (pi_list (pv 3))) (blkOk_by (own := [("_law_one", 6), ("_law_other", 7), ("_law_cost", 8)]) (N := ["_law_script", "_law_box_here", "_law_many", "_law_ties", "_law_names", "_law_fresh", "_law_one", "_law_other", "_law_cost", "_law_goal", "_law_told", "_law_start", "_law_ends", "_law_least", "_law_way"]) (sc := (defScope sLaw)) (by decide +kernel)) (fun _ _ _ _ _ => by exact (pg_tup rfl (pgs_cons (pg_name (i := 6) scLaw.nd rfl (Or.inl rfl)) (pgs_cons (pg_name (i := 7) scLaw.nd rfl (Or.inl rfl)) (pgs_cons (pg_name (i := 8) scLaw.nd rfl (Or.inl rfl)) pgs_nil))))) (fun _ _ _ _ _ => by exact pts_nil) (fun _ _ _ _ _ => by exact (pe_tup (pa_cons (pe_ix (r := rIxL K) ix_list (pv 4) (pv 6) (fun _ _ => rfl)) (pa_cons (pe_ix (r := rIxL K) ix_list (pv 4) (pv 7) (fun _ _ => rfl)) (pa_cons (pv 8) pa_nil))))))
      (pss_cons (ps_for PassesOwn.never rfl (pi_range1 (by rfl) T.range (pa_cons (pv 2) pa_nil)) (pg_name (i := 9) scLaw.nd rfl (Or.inl rfl))
        (pss_cons (ps_set (i := 10) scLaw.nd rfl (.inl rfl) (pe_call cfar.ok hr (by rfl) cfar.g cfar.kp cfar.b .nil pass0 (pa_cons (pv 2) (pa_cons (pe_callTy call_list_of (by rfl) T.list (by decide +kernel) (pa_cons (pv 3) pa_nil)) (pa_cons (pv 9) pa_nil)))))
        (pss_cons (ps_set (i := 7) scLaw.nd rfl (.inl rfl) (pe_call cfar.ok hr (by rfl) cfar.g cfar.kp cfar.b .nil pass0 (pa_cons (pv 2) (pa_cons (pv 5) (pa_cons (pe_ix (r := rIxL K) ix_list (pv 4) (pv 9) (fun _ _ => rfl)) pa_nil)))))
        (pss_one (ps_for PassesOwn.never rfl (pi_range1 (by rfl) T.range (pa_cons (pv 2) pa_nil)) (pg_name (i := 11) scLaw.nd rfl (Or.inl rfl))
          (pss_cons (ps_set (i := 12) scLaw.nd rfl (.inl rfl) (pe_call c_law_all_ways.ok hr (by rfl) c_law_all_ways.g c_law_all_ways.kp c_law_all_ways.b .nil pass0 (pa_cons (pv 2) (pa_cons (pv 3) (pa_cons (pv 11) (pa_cons (pv 9) pa_nil))))))
          (pss_cons (ps_set (i := 13) scLaw.nd rfl (.inl rfl) (pe_callBK (cr_minD rfl) (by rfl) T.min (by decide +kernel) (pa_cons (pe_lc (own := [("_law_cost", 8), ("_law_way", 14)]) (g := (gTup K 2 (gCons (gName 8) (gCons (gName 14) gNil)))) (tt := tYes) rfl scLaw.nd (by exact (pi_list (pv 12))) (blkOk_by (own := [("_law_cost", 8), ("_law_way", 14)]) (N := ["_law_script", "_law_box_here", "_law_many", "_law_ties", "_law_names", "_law_fresh", "_law_one", "_law_other", "_law_cost", "_law_goal", "_law_told", "_law_start", "_law_ends", "_law_least", "_law_way"]) (sc := (defScope sLaw)) (by decide +kernel)) (fun _ _ _ _ _ => by exact (pg_tup rfl (pgs_cons (pg_name (i := 8) scLaw.nd rfl (Or.inl rfl)) (pgs_cons (pg_name (i := 14) scLaw.nd rfl (Or.inl rfl)) pgs_nil)))) (fun _ _ _ _ _ => by exact pts_nil) (fun _ _ _ _ _ => by exact (pv 8))) pa_nil) (pk_cons pe_non pk_nil)))
          (pss_cons (ps_if (pt_not (pt_val (pe_call c_law_same.ok hr (by rfl) c_law_same.g c_law_same.kp c_law_same.b .nil pass0 (pa_cons (pe_lst (pa_cons (pe_ix (r := rIxL K) ix_list (pv 10) (pv 11) (fun _ _ => rfl)) (pa_cons (pe_ix (r := rIxL K) ix_list (pv 7) (pe_ix (r := rIxL K) ix_list (pv 4) (pv 11) (fun _ _ => rfl)) (fun _ _ => rfl)) pa_nil))) (pa_cons (pe_lst (pa_cons (pv 13) (pa_cons (pv 13) pa_nil))) pa_nil)))))
            (pss_one (ps_ret pe_bl))
            pss_nil)
          (pss_cons (ps_if (PW.pt (pw_and (pt_cmpR op_notN (pv 13) pe_non (nomark _)) (pw_and1 (pt_cmpR (r := rNotInD K) (op_notInD (rm65 hr)) (pe_call cleast_way.ok hr (by rfl) cleast_way.g cleast_way.kp cleast_way.b .nil passL (pa_cons (pv 2) (pa_cons (pe_callTy call_list_of (by rfl) T.list (by decide +kernel) (pa_cons (pv 3) pa_nil)) (pa_cons (pv 11) (pa_cons (pv 9) pa_nil))))) (pv 12) (by rfl)))))
            (pss_one (ps_ret pe_bl))
            pss_nil)
          (pss_one (ps_if (PW.pt (pw_and (pt_cmpR op_notN (pv 13) pe_non (nomark _)) (pw_and1 (pt_cmpR op_ne (pe_ix (r := rIxT K) ix_tup (pe_call cleast_way.ok hr (by rfl) cleast_way.g cleast_way.kp cleast_way.b .nil passL (pa_cons (pv 2) (pa_cons (pe_callTy call_list_of (by rfl) T.list (by decide +kernel) (pa_cons (pv 3) pa_nil)) (pa_cons (pv 11) (pa_cons (pv 9) pa_nil))))) pe_int (fun _ _ => rfl)) (pv 13) (nomark _)))))
            (pss_one (ps_ret pe_bl))
            pss_nil)))))))))))
      (pss_one (ps_ret pe_bl)))))))), ?_⟩
    refine ⟨_, rfl, a, ns, rfl, hS, hlen, fun p q H1 np nq B1 s1 => ?_⟩
    refine ⟨_, rfl, p, q, 5, rfl, B1, by omega, by omega, fun z H3 hz0 hz1 B3 b3 => ?_⟩
    refine ⟨_, _, rfl, rfl, ?_⟩
    obtain ⟨n, en⟩ : ∃ n : Nat, 1 + z = (n : Nat) := ⟨(1 + z).toNat, by omega⟩
    show gName 2 (V.int (1 + z)) _ _ _
    rw [en]
    have hn0 : 0 < n := by omega
    have hn5 : n ≤ 5 := by omega
    refine ⟨_, rfl, _, rfl, _, rfl, p, q, 8, rfl, B3, by omega, by omega, fun z4 H4 hz40 hz41 B4 b4 => ?_⟩
    refine ⟨_, _, rfl, rfl, p, q, n, _, rfl, B4, hn0, by omega, fun t H5 ts nt B5 b5 hT5 hG hL => ?_⟩
    have htp : t ≠ p := by
      obtain ⟨o4, e4⟩ := B4.p_some
      exact Ne.symm (ne_of_none e4 nt)
    have hF := hG.fits
    have hPr : ∀ e ∈ ts, 1 ≤ e.2.2 ∧ e.2.2 ≤ 9 := fun e m => (hG e m).2.2
    have tieK : ∀ {Ha Hb : Hp} {x : Addr} {us : List T3}, x ≠ p → BoxAt Ha p q → But p Ha Hb → TiesAt Ha x us → TiesAt Hb x us := fun {Ha Hb x us} hx BB bb TT => by
      obtain ⟨as, h1, h2⟩ := TT
      obtain ⟨_, _, _, _, z1, _⟩ := BB
      exact ⟨as, bb _ _ h1 hx, paired_mono (fun x e q => bb _ _ q (ne_of q z1 (fun z => by cases z))) h2⟩
    -- names
    refine ⟨_, rfl, _, rfl, (n : Nat), rfl, fun ra nra => ⟨ra, n, rfl, upd_same, by omega, fun rl nrl => ?_⟩⟩
    have v1 := same_upd (o := .rng 0 (n : Nat)) nra
    have v2 := same_upd (o := .lst ((List.range n).map fun i => V.int (i : Nat))) nrl
    have sV : Same H5 _ := v1.trans v2
    have B6 := B5.same sV
    have nrlp : rl ≠ p := by
      obtain ⟨o5, e5⟩ := (B5.same v1).p_some
      exact Ne.symm (ne_of_none e5 nrl)
    refine ⟨p, q, rl, _, rfl, B6, nrlp, upd_same, by rw [List.length_map, List.length_range]; omega, fun nl H6 ys nnl B7 b6 hnl hperm => ?_⟩
    have hT6 := tieK htp B6 b6 (hT5.same sV)
    obtain ⟨nms, rfl, hpm⟩ := perm_ints hperm
    -- fresh
    obtain ⟨as, ht, hp⟩ := id hT6
    have hal := paired_len hp
    refine ⟨_, rfl, t, rfl, ⟨_, SqL.of ht⟩, fun fr nfr => ?_⟩
    refine lc_list (K := K) (a := t) (xs := as.map V.ref) (fun i H' => Same H6 H' ∧ ∃ bs : List Addr, H' fr = some (.lst (bs.map V.ref)) ∧ Paired (fun b e => H' b = some (.tup (tv e))) bs ((ts.take i).map (ren (nmF nms))) ∧ bs.length ≤ i) ⟨same_upd nfr, [], upd_same, by rw [List.take_zero]; exact .nil, Nat.le_refl _⟩ (fun i H' _ z => SqL.of (z.1 _ _ ht)) ?_ ?_
    · rintro i x H7 hx ⟨s7, bs, hD, hB, hbl⟩
      obtain ⟨ad, ead, rfl⟩ := map_ref_at hx
      obtain ⟨e, ee, hat⟩ := paired_at hp i ad ead
      obtain ⟨e1, e2, e3⟩ := e
      have hb := hF _ (List.mem_of_getElem? ee)
      have hi : i < ts.length := (List.getElem?_eq_some_iff.mp ee).1
      refine ⟨ad, tv (e1, e2, e3), rfl, SqT.of (s7 _ _ hat), rfl, _, _, rfl, _, _, rfl, _, _, rfl, rfl, rfl, ?_⟩
      have hn7 := s7 _ _ hnl
      refine ⟨_, rfl, _, rfl, nl, _, _, _, rfl, rfl, SqL.of hn7, atI_nat (nm_at hpm hb.1), _, rfl, _, rfl, nl, _, _, _, rfl, rfl, SqL.of hn7, atI_nat (nm_at hpm hb.2), _, rfl, (by show 3 ≤ sizeLine; decide), fun pt npt => ?_⟩
      have u1 := same_upd (o := .tup [.int (nmF nms e1 : Nat), .int (nmF nms e2 : Nat), .int (e3 : Nat)]) npt
      have hD2 := u1 _ _ hD
      refine ⟨_, hD2, by rw [List.length_map]; exact small1000 (by omega), fun b o q => ?_, bs ++ [pt], ?_, ?_, by rw [List.length_append]; show bs.length + 1 ≤ i + 1; omega⟩
      · rw [upd_ne (ne_of_none q nfr)]
        exact u1 _ _ (s7 _ _ q)
      · rw [upd_same, List.map_append]
        rfl
      · rw [take_succ_of ee, List.map_append]
        refine paired_append (paired_mono (fun b e q => ?_) hB) (.cons ?_ .nil)
        · rw [upd_ne (ne_of (u1 _ _ q) hD2 (fun z => by cases z))]
          exact u1 _ _ q
        · rw [upd_ne (ne_of (upd_same (H := H7) (a := pt) (o := .tup [.int (nmF nms e1 : Nat), .int (nmF nms e2 : Nat), .int (e3 : Nat)])) hD2 (fun z => by cases z))]
          exact upd_same
    rintro H7 ⟨s7, bs, hD, hB, hbl⟩
    rw [List.length_map, hal, List.take_length] at hB
    have hT7 := hT6.same s7
    have hFr7 : TiesAt H7 fr (ts.map (ren (nmF nms))) := ⟨bs, hD, hB⟩
    have hnl7 := s7 _ _ hnl
    have hFf : Fits n (ts.map (ren (nmF nms))) := fun e m => by
      obtain ⟨x, hx, rfl⟩ := List.mem_map.mp m
      have := hF x hx
      exact ⟨nm_lt hpm this.1, nm_lt hpm this.2⟩
    have hbP : ∀ a b c, (a, b, c) ∈ both ts → 1 ≤ c := fun a b c m => by rcases (both_mem ts _).mp m with z | z <;> exact (hPr _ z).1
    refine ⟨_, rfl, n, rfl, by omega, by omega, for_range (n := n) (fun j σ H' => ∃ y6 y7 y8 y9 y10 y11 y12 y13 y14, σ = [some (.ref a), some (.ref p), some (.int (n : Nat)), some (.ref t), some (.ref nl), some (.ref fr), y6, y7, y8, y9, y10, y11, y12, y13, y14] ∧ Same H7 H')
      ⟨_, _, _, _, _, _, _, _, _, rfl, Same.refl _⟩ ?_ ?_⟩
    · rintro j σ H8 hj ⟨y6, y7, y8, y9, y10, y11, y12, y13, y14, rfl, s8⟩
      show gName 9 (V.int (0 + (j : Int))) _ _ _
      rw [Int.zero_add]
      obtain ⟨as8, ht8, hp8⟩ := id (hT7.same s8)
      refine ⟨_, rfl, _, rfl, t, _, rfl, .inl (SqL.of ht8), fun tl ntl => ?_⟩
      have u1 := same_upd (o := .lst (as8.map V.ref)) ntl
      refine ⟨_, rfl, n, j, tl, ts, rfl, hj, by omega, ⟨as8, upd_same, paired_mono (fun x e q => u1 _ _ q) hp8⟩, hF, fun d1 H9 nd1 s9 hd1 => ?_⟩
      have s79 : Same H7 H9 := s8.trans (u1.trans s9)
      refine ⟨_, rfl, _, rfl, _, rfl, _, rfl, nl, _, _, _, rfl, rfl, SqL.of (s79 _ _ hnl7), atI_nat (nm_at hpm hj), n, nmF nms j, fr, _, rfl, nm_lt hpm hj, by omega, hFr7.same s79, hFf, fun d2 H10 nd2 s10 hd2 => ?_⟩
      have s710 : Same H7 H10 := s79.trans s10
      have hd1 := (show DistAt H10 d1 (farD n ts j) from s10 _ _ hd1)
      have hI := farD_is hF hj
      have hI2 := farD_is hFf (nm_lt hpm hj)
      have hdl := hI.len
      have hdl2 := hI2.len
      have hren : ∀ st, st < n → at? (farD n (ts.map (ren (nmF nms))) (nmF nms j)) (nmF nms st) = at? (farD n ts j) st := fun st hst => far_ren (nm_inj hpm) hF hj hst hI hI2
      generalize farD n (ts.map (ren (nmF nms))) (nmF nms j) = dd2 at hd2 hI2 hdl2 hren
      refine ⟨_, rfl, n, rfl, by omega, by omega, for_range (n := n) (fun st σ H' => ∃ y8 y11 y12 y13 y14, σ = [some (.ref a), some (.ref p), some (.int (n : Nat)), some (.ref t), some (.ref nl), some (.ref fr), y6, some (.ref d2), y8, some (.int (j : Nat)), some (.ref d1), y11, y12, y13, y14] ∧ Same H10 H')
        ⟨_, _, _, _, _, rfl, Same.refl _⟩ ?_ ?_⟩
      · rintro st σ H11 hst ⟨z8, z11, z12, z13, z14, rfl, s11⟩
        show gName 11 (V.int (0 + (st : Int))) _ _ _
        rw [Int.zero_add]
        have s711 := s710.trans s11
        refine ⟨_, rfl, _, rfl, _, rfl, _, rfl, n, st, j, t, ts, rfl, hn5, hT7.same s711, hL, hG, fun ea H12 nea s12 hEn hlenE => ?_⟩
        obtain ⟨es, hea, hes⟩ := id hEn
        have hesl := paired_len hes
        refine ⟨_, rfl, ea, rfl, ⟨_, SqL.of hea⟩, fun cl ncl => ?_⟩
        refine lc_list (K := K) (a := ea) (xs := es.map V.ref) (fun i H' => Same H12 H' ∧ H' cl = some (.lst (((endsK ts st j n).take i).map fun x => V.int (x.1 : Nat)))) ⟨same_upd ncl, upd_same⟩ (fun i H' _ z => SqL.of (z.1 _ _ hea)) ?_ ?_
        · rintro i x H13 hx ⟨s13, hcl⟩
          obtain ⟨ad, ead, rfl⟩ := map_ref_at hx
          obtain ⟨xe, exe, hxa⟩ := paired_at hes i ad ead
          obtain ⟨l1, hxa1, hxa2⟩ := hxa
          have hi : i < (endsK ts st j n).length := (List.getElem?_eq_some_iff.mp exe).1
          refine ⟨ad, _, rfl, SqT.of (s13 _ _ hxa1), rfl, _, _, rfl, _, _, rfl, rfl, rfl, ?_⟩
          refine ⟨_, rfl, _, hcl, by rw [List.length_map]; exact small_line (Nat.le_trans (List.length_take_le' _ _) hlenE), fun b o q => ?_, ?_⟩
          · rw [upd_ne (ne_of_none q ncl)]
            exact s13 _ _ q
          · rw [upd_same, take_succ_of exe, List.map_append]
            rfl
        rintro H13 ⟨s13, hcl⟩
        rw [List.length_map, hesl, List.take_length] at hcl
        have hren := hren st hst
        have sA : Same H10 H13 := s11.trans (s12.trans s13)
        have hat1 := atI_nat (at_of (d := farD n ts j) (v := st) (by omega))
        have hat2 := atI_nat (at_of (d := dd2) (v := nmF nms st) (by have := nm_lt hpm hst; omega))
        rw [hren] at hat2
        have hnl13 := (s710.trans sA) _ _ hnl7
        have hT13 := hT7.same (s710.trans sA)
        have hE13 := hEn.same s13
        have hd13 := sA _ _ hd1
        have hd23 := sA _ _ hd2
        cases ep : at? (farD n ts j) st with
        | none =>
          rw [ep] at hat1 hat2
          rw [ends_none hI ep] at hcl
          refine ⟨cl, [], .non, rfl, rfl, SqL.of hcl, fun _ => ?_, fun m hm => by cases hm⟩
          refine ⟨_, rfl, _, rfl, d1, _, _, _, rfl, rfl, SqL.of hd13, hat1, _, rfl, _, rfl, _, rfl, nl, _, _, _, rfl, rfl, SqL.of hnl13, atI_nat (nm_at hpm hst), d2, _, _, _, rfl, rfl, SqL.of hd23, hat2, (by show 2 ≤ sizeLine; decide), fun q1 nq1 => ⟨_, rfl, _, rfl, (by show 2 ≤ sizeLine; decide), fun q2 nq2 => ?_⟩⟩
          have g1 := same_upd (o := .lst [.non, .non]) nq1
          have g2 := same_upd (o := .lst [.non, .non]) nq2
          refine ⟨_, _, rfl, eqv_flats (g2 _ _ upd_same) upd_same (fun v m => by simp at m; subst m; rfl) (by show 2 ≤ 1000; decide), fun H14 s14 => ⟨_, rfl, iteF ?_⟩⟩
          have s1314 : Same H13 H14 := g1.trans (g2.trans s14)
          refine ⟨_, rfl, rfl, _, rfl, iteF ?_⟩
          refine ⟨_, rfl, rfl, _, rfl, iteF ?_⟩
          exact ⟨_, _, _, _, _, rfl, sA.trans s1314⟩
        | some c =>
          rw [ep] at hat1 hat2
          obtain ⟨hway, ⟨l0, hl0⟩, hmin⟩ := ends_some hI hbP ep
          have hin : (c : Int) ∈ (endsK ts st j n).map fun x => (x.1 : Int) := List.mem_map.mpr ⟨_, hway l0 hl0, rfl⟩
          refine ⟨cl, (endsK ts st j n).map fun x => (x.1 : Int), .non, rfl, rfl, SqL.of (by rw [hcl, List.map_map]; rfl), fun z => (by rw [z] at hin; cases hin), fun m hm hmm => ?_⟩
          have em : m = (c : Nat) := by
            have h1 := hmm _ hin
            obtain ⟨x, hx, rfl⟩ := List.mem_map.mp hm
            have h2 := hmin x hx
            omega
          subst em
          refine ⟨_, rfl, _, rfl, d1, _, _, _, rfl, rfl, SqL.of hd13, hat1, _, rfl, _, rfl, _, rfl, nl, _, _, _, rfl, rfl, SqL.of hnl13, atI_nat (nm_at hpm hst), d2, _, _, _, rfl, rfl, SqL.of hd23, hat2, (by show 2 ≤ sizeLine; decide), fun q1 nq1 => ⟨_, rfl, _, rfl, (by show 2 ≤ sizeLine; decide), fun q2 nq2 => ?_⟩⟩
          have g1 := same_upd (o := .lst [.int (c : Nat), .int (c : Nat)]) nq1
          have g2 := same_upd (o := .lst [.int (c : Nat), .int (c : Nat)]) nq2
          refine ⟨_, _, rfl, eqv_flats (g2 _ _ upd_same) upd_same (fun v m => by simp at m; subst m; rfl) (by show 2 ≤ 1000; decide), fun H14 s14 => ⟨_, rfl, iteF ?_⟩⟩
          have s1314 : Same H13 H14 := g1.trans (g2.trans s14)
          refine ⟨_, rfl, rfl, _, rfl, iteT ?_⟩
          obtain ⟨as15, ht15, hp15⟩ := id (hT13.same s1314)
          refine ⟨_, rfl, _, rfl, t, _, rfl, .inl (SqL.of ht15), fun tl15 ntl15 => ?_⟩
          have u15 := same_upd (o := .lst (as15.map V.ref)) ntl15
          refine ⟨_, rfl, _, rfl, n, (st : Nat), (j : Nat), tl15, ts, rfl, by omega, log_small (by omega), log_small (by omega), ⟨as15, upd_same, paired_mono (fun x e q => u15 _ _ q) hp15⟩, by omega, hF, hPr, fun z => absurd (by omega) z, fun _ z => absurd (by omega) z, fun s' g' es' eg' hs' hg' ep' => ?_, fun s' g' c' way es' eg' hs' hg' ep' hw hwl p15 H15 np15 s15 hpw => ?_⟩
          · have es' : st = s' := by omega
            have eg' : j = g' := by omega
            subst es'
            subst eg'
            rw [ep] at ep'
            cases ep'
          have es' : st = s' := by omega
          have eg' : j = g' := by omega
          subst es'
          subst eg'
          rw [ep] at ep'
          cases ep'
          have s1315 : Same H13 H15 := s1314.trans (u15.trans s15)
          obtain ⟨w15, hp15a, hp15b⟩ := hpw
          refine ⟨_, rfl, endD (c, way), _, dp_end ⟨w15, hp15a, hp15b⟩, dp_ends (hE13.same s1315), endD_shaped _, ends_shaped _, _, rfl, ?_⟩
          rw [ends_any (hway way hw)]
          refine iteF ?_
          refine ⟨_, rfl, rfl, _, rfl, iteT ?_⟩
          obtain ⟨as16, ht16, hp16⟩ := id (hT13.same s1315)
          refine ⟨_, rfl, _, rfl, t, _, rfl, .inl (SqL.of ht16), fun tl16 ntl16 => ?_⟩
          have u16 := same_upd (o := .lst (as16.map V.ref)) ntl16
          refine ⟨_, rfl, _, rfl, n, (st : Nat), (j : Nat), tl16, ts, rfl, by omega, log_small (by omega), log_small (by omega), ⟨as16, upd_same, paired_mono (fun x e q => u16 _ _ q) hp16⟩, by omega, hF, hPr, fun z => absurd (by omega) z, fun _ z => absurd (by omega) z, fun s2 g2 es2 eg2 hs2 hg2 ep2 => ?_, fun s2 g2 c2 way2 es2 eg2 hs2 hg2 ep2 hw hwl p16 H16 np16 s16 hpw2 => ?_⟩
          · have es2 : st = s2 := by omega
            have eg2 : j = g2 := by omega
            subst es2
            subst eg2
            rw [ep] at ep2
            cases ep2
          have es2 : st = s2 := by omega
          have eg2 : j = g2 := by omega
          subst es2
          subst eg2
          rw [ep] at ep2
          cases ep2
          obtain ⟨w16, hp16a, hp16b⟩ := hpw2
          have s1316 : Same H13 H16 := s1315.trans (u16.trans s16)
          refine ⟨p16, _, 0, _, rfl, rfl, SqT.of hp16a, rfl, _, rfl, rfl, _, rfl, ?_⟩
          refine iteNS rfl ?_
          exact ⟨_, _, _, _, _, rfl, sA.trans s1316⟩
      · rintro σ H11 ⟨z8, z11, z12, z13, z14, rfl, s11⟩
        exact ⟨_, _, _, _, _, _, _, _, _, rfl, s710.trans s11⟩
    · rintro σ H8 ⟨y6, y7, y8, y9, y10, y11, y12, y13, y14, rfl, s8⟩
      exact kk H8
end
end K

namespace K
open PySem PySem.Spec PyProof.Rows L2
theorem all_mk {l : PySem.W.OpenLaw} {w : World} {K : PySem.W.Frag} {h : Heap} {mg : Str → Option Value} {fa f0 f1 f2 f3 f4 f5 f6 f7 f8 f9 f10 f11 f12 f13 f14 f15 CS fS TD CNoHouse fNoHouse NNoHouse CNoWay fNoWay NNoWay : Addr} (X : K.In h) (G : h.Ns mainGlobals mg) (hfa : mg "law" = some (.ref fa))
    {od0 an0 od1 an1 od2 an2 od3 an3 od4 an4 od5 an5 od6 an6 od7 an7 od8 an8 od9 an9 od10 an10 od11 an11 od12 an12 od13 an13 od14 an14 od15 an15 odS anS odT odNoHouse anNoHouse ddNoHouse odNoWay anNoWay ddNoWay : Option Addr} {sl0 sl1 sl2 sl3 sl4 sl5 sl6 sl7 sl8 sl9 sl10 sl11 sl12 sl13 sl14 sl15 slS slT slNoHouse slNoWay : Array (Option Value)} {oc0 kV0 dc0 pm0 cd0 ct0 oc1 kV1 dc1 pm1 cd1 ct1 oc2 kV2 dc2 pm2 cd2 ct2 oc3 kV3 dc3 pm3 cd3 ct3 oc4 kV4 dc4 pm4 cd4 ct4 oc5 kV5 dc5 pm5 cd5 ct5 oc6 kV6 dc6 pm6 cd6 ct6 oc7 kV7 dc7 pm7 cd7 ct7 oc8 kV8 dc8 pm8 cd8 ct8 oc9 kV9 dc9 pm9 cd9 ct9 oc10 kV10 dc10 pm10 cd10 ct10 oc11 kV11 dc11 pm11 cd11 ct11 oc12 kV12 dc12 pm12 cd12 ct12 oc13 kV13 dc13 pm13 cd13 ct13 oc14 kV14 dc14 pm14 cd14 ct14 oc15 kV15 dc15 pm15 cd15 ct15 ocS kVS dcS pmS cdS ctS ocT ocNoHouse kVNoHouse dcNoHouse pmNoHouse cdNoHouse ctNoHouse ocNoWay kVNoWay dcNoWay pmNoWay cdNoWay ctNoWay : Value} {tk1 tk2 : Tok} {nT : Nat}
    {nmNoHouse qnNoHouse nmNoWay qnNoWay : Str} {bsNoHouse bmNoHouse subNoHouse bsNoWay bmNoWay subNoWay : List Value} {snNoHouse snNoWay : List Str} {abNoHouse abNoWay : Bool} {colNoHouse colNoWay : Option Bool} {p0NoHouse p1NoHouse p2NoHouse p3NoHouse p5NoHouse p0NoWay p1NoWay p2NoWay p3NoWay p5NoWay : Option Value}
    (a0 : PySem.W.nsIn K mainGlobals "_law_box" = some (some (.ref f0)))
    (l0 : K.lookup f0 = some ⟨oc0, od0, .func (PySem.W.fnOf "_law_box" "_law_box" (defArgs sBox) (defBody sBox) (defScope sBox) .none kV0 dc0 pm0 an0 cd0 ct0), sl0⟩)
    (c0 : PySem.W.codeIn K cd0 "_law_box" = true)
    (k0 : PySem.W.keepIn K (.ref f0) = true)
    (a1 : PySem.W.nsIn K mainGlobals "_law_take" = some (some (.ref f1)))
    (l1 : K.lookup f1 = some ⟨oc1, od1, .func (PySem.W.fnOf "_law_take" "_law_take" (defArgs sTake) (defBody sTake) (defScope sTake) .none kV1 dc1 pm1 an1 cd1 ct1), sl1⟩)
    (c1 : PySem.W.codeIn K cd1 "_law_take" = true)
    (k1 : PySem.W.keepIn K (.ref f1) = true)
    (a2 : PySem.W.nsIn K mainGlobals "_law_same" = some (some (.ref f2)))
    (l2 : K.lookup f2 = some ⟨oc2, od2, .func (PySem.W.fnOf "_law_same" "_law_same" (defArgs sSame) (defBody sSame) (defScope sSame) .none kV2 dc2 pm2 an2 cd2 ct2), sl2⟩)
    (c2 : PySem.W.codeIn K cd2 "_law_same" = true)
    (k2 : PySem.W.keepIn K (.ref f2) = true)
    (a3 : PySem.W.nsIn K mainGlobals "_law_pairs" = some (some (.ref f3)))
    (l3 : K.lookup f3 = some ⟨oc3, od3, .func (PySem.W.fnOf "_law_pairs" "_law_pairs" (defArgs sPairs) (defBody sPairs) (defScope sPairs) .none kV3 dc3 pm3 an3 cd3 ct3), sl3⟩)
    (c3 : PySem.W.codeIn K cd3 "_law_pairs" = true)
    (k3 : PySem.W.keepIn K (.ref f3) = true)
    (a4 : PySem.W.nsIn K mainGlobals "_law_shuffled" = some (some (.ref f4)))
    (l4 : K.lookup f4 = some ⟨oc4, od4, .func (PySem.W.fnOf "_law_shuffled" "_law_shuffled" (defArgs sShuf) (defBody sShuf) (defScope sShuf) .none kV4 dc4 pm4 an4 cd4 ct4), sl4⟩)
    (c4 : PySem.W.codeIn K cd4 "_law_shuffled" = true)
    (k4 : PySem.W.keepIn K (.ref f4) = true)
    (a5 : PySem.W.nsIn K mainGlobals "_law_some_ties" = some (some (.ref f5)))
    (l5 : K.lookup f5 = some ⟨oc5, od5, .func (PySem.W.fnOf "_law_some_ties" "_law_some_ties" (defArgs sSome) (defBody sSome) (defScope sSome) .none kV5 dc5 pm5 an5 cd5 ct5), sl5⟩)
    (c5 : PySem.W.codeIn K cd5 "_law_some_ties" = true)
    (k5 : PySem.W.keepIn K (.ref f5) = true)
    (a6 : PySem.W.nsIn K mainGlobals "_law_all_ways" = some (some (.ref f6)))
    (l6 : K.lookup f6 = some ⟨oc6, od6, .func (PySem.W.fnOf "_law_all_ways" "_law_all_ways" (defArgs sAllW) (defBody sAllW) (defScope sAllW) .none kV6 dc6 pm6 an6 cd6 ct6), sl6⟩)
    (c6 : PySem.W.codeIn K cd6 "_law_all_ways" = true)
    (k6 : PySem.W.keepIn K (.ref f6) = true)
    (a7 : PySem.W.nsIn K mainGlobals "check_house" = some (some (.ref f7)))
    (l7 : K.lookup f7 = some ⟨oc7, od7, .func (PySem.W.fnOf "check_house" "check_house" (defArgs sCheck) (defBody sCheck) (defScope sCheck) .none kV7 dc7 pm7 an7 cd7 ct7), sl7⟩)
    (c7 : PySem.W.codeIn K cd7 "check_house" = true)
    (k7 : PySem.W.keepIn K (.ref f7) = true)
    (a8 : PySem.W.nsIn K mainGlobals "cheapen" = some (some (.ref f8)))
    (l8 : K.lookup f8 = some ⟨oc8, od8, .func (PySem.W.fnOf "cheapen" "cheapen" (defArgs sCheap) (defBody sCheap) (defScope sCheap) .none kV8 dc8 pm8 an8 cd8 ct8), sl8⟩)
    (c8 : PySem.W.codeIn K cd8 "cheapen" = true)
    (k8 : PySem.W.keepIn K (.ref f8) = true)
    (a9 : PySem.W.nsIn K mainGlobals "far" = some (some (.ref f9)))
    (l9 : K.lookup f9 = some ⟨oc9, od9, .func (PySem.W.fnOf "far" "far" (defArgs sFar) (defBody sFar) (defScope sFar) .none kV9 dc9 pm9 an9 cd9 ct9), sl9⟩)
    (c9 : PySem.W.codeIn K cd9 "far" = true)
    (k9 : PySem.W.keepIn K (.ref f9) = true)
    (a10 : PySem.W.nsIn K mainGlobals "neighbours" = some (some (.ref f10)))
    (l10 : K.lookup f10 = some ⟨oc10, od10, .func (PySem.W.fnOf "neighbours" "neighbours" (defArgs sNbr) (defBody sNbr) (defScope sNbr) .none kV10 dc10 pm10 an10 cd10 ct10), sl10⟩)
    (c10 : PySem.W.codeIn K cd10 "neighbours" = true)
    (k10 : PySem.W.keepIn K (.ref f10) = true)
    (a11 : PySem.W.nsIn K mainGlobals "next_house" = some (some (.ref f11)))
    (l11 : K.lookup f11 = some ⟨oc11, od11, .func (PySem.W.fnOf "next_house" "next_house" (defArgs sNextH) (defBody sNextH) (defScope sNextH) .none kV11 dc11 pm11 an11 cd11 ct11), sl11⟩)
    (c11 : PySem.W.codeIn K cd11 "next_house" = true)
    (k11 : PySem.W.keepIn K (.ref f11) = true)
    (a12 : PySem.W.nsIn K mainGlobals "nexts" = some (some (.ref f12)))
    (l12 : K.lookup f12 = some ⟨oc12, od12, .func (PySem.W.fnOf "nexts" "nexts" (defArgs sNexts) (defBody sNexts) (defScope sNexts) .none kV12 dc12 pm12 an12 cd12 ct12), sl12⟩)
    (c12 : PySem.W.codeIn K cd12 "nexts" = true)
    (k12 : PySem.W.keepIn K (.ref f12) = true)
    (a13 : PySem.W.nsIn K mainGlobals "reached" = some (some (.ref f13)))
    (l13 : K.lookup f13 = some ⟨oc13, od13, .func (PySem.W.fnOf "reached" "reached" (defArgs sReach) (defBody sReach) (defScope sReach) .none kV13 dc13 pm13 an13 cd13 ct13), sl13⟩)
    (c13 : PySem.W.codeIn K cd13 "reached" = true)
    (k13 : PySem.W.keepIn K (.ref f13) = true)
    (a14 : PySem.W.nsIn K mainGlobals "least_way" = some (some (.ref f14)))
    (l14 : K.lookup f14 = some ⟨oc14, od14, .func (PySem.W.fnOf "least_way" "least_way" (defArgs sLeast) (defBody sLeast) (defScope sLeast) .none kV14 dc14 pm14 an14 cd14 ct14), sl14⟩)
    (c14 : PySem.W.codeIn K cd14 "least_way" = true)
    (k14 : PySem.W.keepIn K (.ref f14) = true)
    (a15 : PySem.W.nsIn K mainGlobals "law" = some (some (.ref f15)))
    (l15 : K.lookup f15 = some ⟨oc15, od15, .func (PySem.W.fnOf "law" "law" (defArgs sLaw) (defBody sLaw) (defScope sLaw) .none kV15 dc15 pm15 an15 cd15 ct15), sl15⟩)
    (c15 : PySem.W.codeIn K cd15 "law" = true)
    (k15 : PySem.W.keepIn K (.ref f15) = true)
    (aS : PySem.W.nsIn K mainGlobals "SlipError" = some (some (.ref CS)))
    (rd : PySem.W.readsIn K CS (.type "type") = true)
    (rga : PySem.W.specialIn K (.ref CS) "__getattribute__" = some (some (.builtin "type.__getattribute__")))
    (atS : PySem.W.findCls K (.ref CS) (.type "type") "__init__" = some (.val (.ref fS)))
    (lS : K.lookup fS = some ⟨ocS, odS, .func (PySem.W.fnOf "__init__" "SlipError.__init__" (defArgs sSlipI) (defBody sSlipI) (defScope sSlipI) (.ref TD) kVS dcS pmS anS cdS ctS), slS⟩)
    (lT : K.lookup TD = some ⟨ocT, odT, .seq #[.str "sliperror" tk1, .str "refused" tk2] nT, slT⟩)
    (cS : PySem.W.codeIn K cdS "SlipError.__init__" = true)
    (kS : PySem.W.keepIn K (.ref fS) = true)
    (vV : PySem.W.findCls K (.type "ValueError") (.type "type") "__init__" = some (.val (.builtin "ValueError.__init__")))
    (zV : PySem.W.nsIn K mainGlobals "ValueError" = some none)
    (aNoHouse : PySem.W.nsIn K mainGlobals "NoHouse" = some (some (.ref CNoHouse)))
    (xNoHouse : K.lookup CNoHouse = some (excClassObj nmNoHouse qnNoHouse CNoHouse NNoHouse bsNoHouse bmNoHouse true snNoHouse subNoHouse abNoHouse colNoHouse ddNoHouse p0NoHouse p1NoHouse p2NoHouse p3NoHouse p5NoHouse "ValueError.__new__"))
    (rNoHouse : PySem.HandSPX.refsVE bmNoHouse = true)
    (saNoHouse : PySem.W.findIn K (.ref CNoHouse) "__setattr__" = some (some (.builtin "object.__setattr__")))
    (exNoHouse : PySem.W.subIn K (.ref CNoHouse) (.type "BaseException") = some true)
    (tyNoHouse : PySem.W.typeIn K (.ref CNoHouse) = some (.type "type"))
    (kcNoHouse : PySem.W.keepIn K (.ref CNoHouse) = true)
    (gaNoHouse : PySem.W.findIn K (.ref CNoHouse) "__getattribute__" = some (some (.builtin "BaseException.__getattribute__")))
    (ggNoHouse : PySem.W.findIn K (.ref CNoHouse) "__getattr__" = some none)
    (hdNoHouse : PySem.W.hasDictIn K CNoHouse = true)
    (iNoHouse : PySem.W.findIn K (.ref CNoHouse) "__init__" = some (some (.ref fNoHouse)))
    (tiNoHouse : PySem.W.typeIn K (.ref fNoHouse) = some (.type "function"))
    (lNoHouse : K.lookup fNoHouse = some ⟨ocNoHouse, odNoHouse, .func (PySem.W.fnOf "__init__" "NoHouse.__init__" (defArgs sNoHouseI) (defBody sNoHouseI) (defScope sNoHouseI) .none kVNoHouse dcNoHouse pmNoHouse anNoHouse cdNoHouse ctNoHouse), slNoHouse⟩)
    (cNoHouse : PySem.W.codeIn K cdNoHouse "NoHouse.__init__" = true)
    (kfNoHouse : PySem.W.keepIn K (.ref fNoHouse) = true)
    (wNoHouse : PySem.W.findIn K (.ref CNoHouse) "word" = some none)
    (flNoHousehouse : PySem.W.findIn K (.ref CNoHouse) "house" = some none)
    (icNoHouse : PySem.W.isClsIn K CNoHouse = true)
    (aNoWay : PySem.W.nsIn K mainGlobals "NoWay" = some (some (.ref CNoWay)))
    (xNoWay : K.lookup CNoWay = some (excClassObj nmNoWay qnNoWay CNoWay NNoWay bsNoWay bmNoWay true snNoWay subNoWay abNoWay colNoWay ddNoWay p0NoWay p1NoWay p2NoWay p3NoWay p5NoWay "ValueError.__new__"))
    (rNoWay : PySem.HandSPX.refsVE bmNoWay = true)
    (saNoWay : PySem.W.findIn K (.ref CNoWay) "__setattr__" = some (some (.builtin "object.__setattr__")))
    (exNoWay : PySem.W.subIn K (.ref CNoWay) (.type "BaseException") = some true)
    (tyNoWay : PySem.W.typeIn K (.ref CNoWay) = some (.type "type"))
    (kcNoWay : PySem.W.keepIn K (.ref CNoWay) = true)
    (gaNoWay : PySem.W.findIn K (.ref CNoWay) "__getattribute__" = some (some (.builtin "BaseException.__getattribute__")))
    (ggNoWay : PySem.W.findIn K (.ref CNoWay) "__getattr__" = some none)
    (hdNoWay : PySem.W.hasDictIn K CNoWay = true)
    (iNoWay : PySem.W.findIn K (.ref CNoWay) "__init__" = some (some (.ref fNoWay)))
    (tiNoWay : PySem.W.typeIn K (.ref fNoWay) = some (.type "function"))
    (lNoWay : K.lookup fNoWay = some ⟨ocNoWay, odNoWay, .func (PySem.W.fnOf "__init__" "NoWay.__init__" (defArgs sNoWayI) (defBody sNoWayI) (defScope sNoWayI) .none kVNoWay dcNoWay pmNoWay anNoWay cdNoWay ctNoWay), slNoWay⟩)
    (cNoWay : PySem.W.codeIn K cdNoWay "NoWay.__init__" = true)
    (kfNoWay : PySem.W.keepIn K (.ref fNoWay) = true)
    (wNoWay : PySem.W.findIn K (.ref CNoWay) "word" = some none)
    (flNoWaylot : PySem.W.findIn K (.ref CNoWay) "lot" = some none)
    (icNoWay : PySem.W.isClsIn K CNoWay = true)
    (zlen : PySem.W.nsIn K mainGlobals "len" = some none)
    (zrange : PySem.W.nsIn K mainGlobals "range" = some none)
    (zlist : PySem.W.nsIn K mainGlobals "list" = some none)
    (ztuple : PySem.W.nsIn K mainGlobals "tuple" = some none)
    (zisinstance : PySem.W.nsIn K mainGlobals "isinstance" = some none)
    (zbool : PySem.W.nsIn K mainGlobals "bool" = some none)
    (zint : PySem.W.nsIn K mainGlobals "int" = some none)
    (zstr : PySem.W.nsIn K mainGlobals "str" = some none)
    (zall : PySem.W.nsIn K mainGlobals "all" = some none)
    (zzip : PySem.W.nsIn K mainGlobals "zip" = some none)
    (zsum : PySem.W.nsIn K mainGlobals "sum" = some none)
    (zmin : PySem.W.nsIn K mainGlobals "min" = some none)
    (zsorted : PySem.W.nsIn K mainGlobals "sorted" = some none)
    (zabs : PySem.W.nsIn K mainGlobals "abs" = some none)
    (zenumerate : PySem.W.nsIn K mainGlobals "enumerate" = some none)
    : ∃ fd : FuncData, (∀ (s : Shared) (v : Value), BindsTo s fd ⟨[v], []⟩ [("_law_script", v)]) ∧ ∀ base : Heap, K.In base → base.Ns mainGlobals mg → FnOk l.prog w K mg base CX0 13 fa fd ["_law_script"] (spLaw K) := by
  have e := hfa.symm.trans (PySem.W.mg_of X G a15)
  cases e
  have T : BT mg := ⟨PySem.W.mg_none_of X G zlen, PySem.W.mg_none_of X G zrange, PySem.W.mg_none_of X G zlist, PySem.W.mg_none_of X G ztuple, PySem.W.mg_none_of X G zisinstance, PySem.W.mg_none_of X G zbool, PySem.W.mg_none_of X G zint, PySem.W.mg_none_of X G zstr, PySem.W.mg_none_of X G zall, PySem.W.mg_none_of X G zzip, PySem.W.mg_none_of X G zsum, PySem.W.mg_none_of X G zmin, PySem.W.mg_none_of X G zsorted, PySem.W.mg_none_of X G zabs, PySem.W.mg_none_of X G zenumerate⟩
  have F_law_box := fun_mk (st := sBox) l0 c0 k0
  have g_law_box := PySem.W.mg_of X G a0
  have b_law_box := F_law_box.binds (ps := ["_law_script"]) fun _ _ _ _ _ _ us hl => match us, hl with | [_], _ => rfl
  have F_law_take := fun_mk (st := sTake) l1 c1 k1
  have g_law_take := PySem.W.mg_of X G a1
  have b_law_take := F_law_take.binds (ps := ["_law_box_here", "_law_sides"]) fun _ _ _ _ _ _ us hl => match us, hl with | [_, _], _ => rfl
  have F_law_same := fun_mk (st := sSame) l2 c2 k2
  have g_law_same := PySem.W.mg_of X G a2
  have b_law_same := F_law_same.binds (ps := ["_law_found", "_law_due"]) fun _ _ _ _ _ _ us hl => match us, hl with | [_, _], _ => rfl
  have F_law_pairs := fun_mk (st := sPairs) l3 c3 k3
  have g_law_pairs := PySem.W.mg_of X G a3
  have b_law_pairs := F_law_pairs.binds (ps := ["_law_many"]) fun _ _ _ _ _ _ us hl => match us, hl with | [_], _ => rfl
  have F_law_shuffled := fun_mk (st := sShuf) l4 c4 k4
  have g_law_shuffled := PySem.W.mg_of X G a4
  have b_law_shuffled := F_law_shuffled.binds (ps := ["_law_box_here", "_law_some"]) fun _ _ _ _ _ _ us hl => match us, hl with | [_, _], _ => rfl
  have F_law_some_ties := fun_mk (st := sSome) l5 c5 k5
  have g_law_some_ties := PySem.W.mg_of X G a5
  have b_law_some_ties := F_law_some_ties.binds (ps := ["_law_box_here", "_law_many", "_law_odds"]) fun _ _ _ _ _ _ us hl => match us, hl with | [_, _, _], _ => rfl
  have F_law_all_ways := fun_mk (st := sAllW) l6 c6 k6
  have g_law_all_ways := PySem.W.mg_of X G a6
  have b_law_all_ways := F_law_all_ways.binds (ps := ["_law_many", "_law_ties", "_law_start", "_law_goal"]) fun _ _ _ _ _ _ us hl => match us, hl with | [_, _, _, _], _ => rfl
  have Fcheck_house := fun_mk (st := sCheck) l7 c7 k7
  have gcheck_house := PySem.W.mg_of X G a7
  have bcheck_house := Fcheck_house.binds (ps := ["many", "house"]) fun _ _ _ _ _ _ us hl => match us, hl with | [_, _], _ => rfl
  have Fcheapen := fun_mk (st := sCheap) l8 c8 k8
  have gcheapen := PySem.W.mg_of X G a8
  have bcheapen := Fcheapen.binds (ps := ["prices", "house", "near", "price"]) fun _ _ _ _ _ _ us hl => match us, hl with | [_, _, _, _], _ => rfl
  have Ffar := fun_mk (st := sFar) l9 c9 k9
  have gfar := PySem.W.mg_of X G a9
  have bfar := Ffar.binds (ps := ["many", "ties", "goal"]) fun _ _ _ _ _ _ us hl => match us, hl with | [_, _, _], _ => rfl
  have Fneighbours := fun_mk (st := sNbr) l10 c10 k10
  have gneighbours := PySem.W.mg_of X G a10
  have bneighbours := Fneighbours.binds (ps := ["ties", "house"]) fun _ _ _ _ _ _ us hl => match us, hl with | [_, _], _ => rfl
  have Fnext_house := fun_mk (st := sNextH) l11 c11 k11
  have gnext_house := PySem.W.mg_of X G a11
  have bnext_house := Fnext_house.binds (ps := ["prices", "ties", "goal", "house"]) fun _ _ _ _ _ _ us hl => match us, hl with | [_, _, _, _], _ => rfl
  have Fnexts := fun_mk (st := sNexts) l12 c12 k12
  have gnexts := PySem.W.mg_of X G a12
  have bnexts := Fnexts.binds (ps := ["many", "ties", "goal"]) fun _ _ _ _ _ _ us hl => match us, hl with | [_, _, _], _ => rfl
  have Freached := fun_mk (st := sReach) l13 c13 k13
  have greached := PySem.W.mg_of X G a13
  have breached := Freached.binds (ps := ["many", "ties", "start"]) fun _ _ _ _ _ _ us hl => match us, hl with | [_, _, _], _ => rfl
  have Fleast_way := fun_mk (st := sLeast) l14 c14 k14
  have gleast_way := PySem.W.mg_of X G a14
  have bleast_way := Fleast_way.binds (ps := ["many", "ties", "start", "goal"]) fun _ _ _ _ _ _ us hl => match us, hl with | [_, _, _, _], _ => rfl
  have Flaw := fun_mk (st := sLaw) l15 c15 k15
  have glaw := PySem.W.mg_of X G a15
  have blaw := Flaw.binds (ps := ["_law_script"]) fun _ _ _ _ _ _ us hl => match us, hl with | [_], _ => rfl
  have FS : FunD K "__init__" "SlipError.__init__" (defArgs sSlipI) (defBody sSlipI) (defScope sSlipI) [.str "sliperror", .str "refused"] [] fS _ := ⟨⟨_, _, _, _, _, _, _, _, _, _, rfl, lS, cS, .inr ⟨fun z => (by cases z), TD, _, [.str "sliperror" tk1, .str "refused" tk2], nT, rfl, lT, rfl, .cons ⟨_, rfl⟩ (.cons ⟨_, rfl⟩ .nil)⟩, .inl rfl⟩, kS⟩
  have bS : Binds K (PySem.W.fnOf "__init__" "SlipError.__init__" (defArgs sSlipI) (defBody sSlipI) (defScope sSlipI) (.ref TD) kVS dcS pmS anS cdS ctS) ["self", "word", "why"] [] := by
    obtain ⟨ds, hd, hb⟩ := FS.binds1 (ps := ["self", "word", "why"]) 3 2 (fun z => by cases z) rfl (fun T kV doc pm an cdv ct us its hu hi => match us, hu, its, hi with | [_, _, _], _, [_, _], _ => ⟨_, rfl, rfl⟩)
    cases hd
    exact hb
  have TS : SlipT K mg CS fS := ⟨PySem.W.mg_of X G aS, ⟨rd, rga⟩, atS, kS, vV, PySem.W.mg_none_of X G zV⟩
  have FNoHouse := fun_mk (st := sNoHouseI) lNoHouse cNoHouse kfNoHouse
  have bNoHouse := FNoHouse.binds (ps := ["self", "house"]) fun _ _ _ _ _ _ us hl => match us, hl with | [_, _], _ => rfl
  have TNoHouse : ExcT K mg "NoHouse" CNoHouse fNoHouse := ⟨PySem.W.mg_of X G aNoHouse, ⟨⟨_, _, _, _, _, _, _, _, _, _, _, _, _, _, _, xNoHouse, rNoHouse⟩, saNoHouse, exNoHouse, tyNoHouse, kcNoHouse⟩, ⟨gaNoHouse, ggNoHouse, exNoHouse, hdNoHouse⟩, iNoHouse, tiNoHouse, wNoHouse⟩
  have FNoWay := fun_mk (st := sNoWayI) lNoWay cNoWay kfNoWay
  have bNoWay := FNoWay.binds (ps := ["self", "lot"]) fun _ _ _ _ _ _ us hl => match us, hl with | [_, _], _ => rfl
  have TNoWay : ExcT K mg "NoWay" CNoWay fNoWay := ⟨PySem.W.mg_of X G aNoWay, ⟨⟨_, _, _, _, _, _, _, _, _, _, _, _, _, _, _, xNoWay, rNoWay⟩, saNoWay, exNoWay, tyNoWay, kcNoWay⟩, ⟨gaNoWay, ggNoWay, exNoWay, hdNoWay⟩, iNoWay, tiNoWay, wNoWay⟩
  refine ⟨PySem.W.fnOf "law" "law" (defArgs sLaw) (defBody sLaw) (defScope sLaw) .none kV15 dc15 pm15 an15 cd15 ct15, fun s v => .of_eq rfl, fun base _ _ => ?_⟩
  have GS : ∀ j, FnOk l.prog w K mg base CX0 (j + 1) fS _ ["self", "word", "why"] (spSlip K) := fun j => ok_slipI (k := j) FS TS
  have XH : ExcC l.prog w K mg base 9 "NoHouse" CNoHouse fNoHouse _ ["self", "house"] (spIn1 K "house" "nohouse" askInt gotSame) := ⟨TNoHouse, ok_nohouseI (k := 7) FNoHouse TS (GS 7) bS, bNoHouse⟩
  have XW : ExcC l.prog w K mg base 10 "NoWay" CNoWay fNoWay _ ["self", "lot"] (spIn1 K "lot" "noway" (askLot K) gotLot) := ⟨TNoWay, ok_nowayI (k := 8) FNoWay TS (GS 8) bS T.list, bNoWay⟩
  have cC : CalX l.prog w K mg base 11 "check_house" _ _ ["many", "house"] (spCheckX CNoHouse) := ⟨ok_checkX (k := 7) Fcheck_house XH flNoHousehouse, gcheck_house, k7, bcheck_house⟩
  have cN : Cal l.prog w K mg base 11 "nexts" _ _ ["many", "ties", "goal"] spNexts := ⟨ok_nexts (k := 8) Fnexts T ⟨ok_far (k := 8) Ffar Fcheck_house Fcheapen gcheck_house gcheapen T.range bcheck_house bcheapen, gfar, k9, bfar⟩ ⟨ok_nexth (k := 8) Fnext_house T ⟨ok_nbr (k := 8) Fneighbours, gneighbours, k10, bneighbours⟩, gnext_house, k11, bnext_house⟩, gnexts, k12, bnexts⟩
  have cR : Cal l.prog w K mg base 11 "reached" _ _ ["many", "ties", "start"] spReach := ⟨ok_reach (k := 8) Freached T ⟨ok_far (k := 8) Ffar Fcheck_house Fcheapen gcheck_house gcheapen T.range bcheck_house bcheapen, gfar, k9, bfar⟩, greached, k13, breached⟩
  have cL : CalX l.prog w K mg base 12 "least_way" _ _ ["many", "ties", "start", "goal"] (spLeastX CNoHouse CNoWay) := ⟨ok_least (k := 6) Fleast_way T cC ⟨ok_far (k := 9) Ffar Fcheck_house Fcheapen gcheck_house gcheapen T.range bcheck_house bcheapen, gfar, k9, bfar⟩ cN cR XW flNoWaylot, gleast_way, k14, bleast_way⟩
  exact ok_law Flaw T ⟨ok_box (k := 11) F_law_box T.list, g_law_box, k0, b_law_box⟩ ⟨ok_take (k := 11) F_law_take T.len, g_law_take, k1, b_law_take⟩
    ⟨ok_same F_law_same ⟨T.isinstance, T.list, T.tuple, T.bool, T.int, T.str, T.len, T.all, T.zip⟩ g_law_same b_law_same 12, g_law_same, k2, b_law_same⟩
    ⟨ok_shuf (k := 10) F_law_shuffled F_law_take g_law_take b_law_take T.len, g_law_shuffled, k4, b_law_shuffled⟩
    ⟨ok_some (k := 10) F_law_some_ties F_law_take g_law_take b_law_take F_law_pairs g_law_pairs b_law_pairs T.len T.sum T.range, g_law_some_ties, k5, b_law_some_ties⟩
    ⟨ok_allw (k := 11) F_law_all_ways T, g_law_all_ways, k6, b_law_all_ways⟩ ⟨ok_far (k := 10) Ffar Fcheck_house Fcheapen gcheck_house gcheapen T.range bcheck_house bcheapen, gfar, k9, bfar⟩ cL
theorem walk {l : PySem.W.OpenLaw} {q : Program} {loose : List Str} {XP : (Str → Option Value) → Heap → Prop} {YP : World → Heap → Prop} {d : DefRec} {K : Params → PySem.W.Frag} (hn : l.most = some 63) (hdf : d.params.defaults = [])
    (hY : ∀ (w : World) (h : Heap), YP w h → (K w.params).In h)
    (F : ∀ (w : World) (mg : Str → Option Value) (fa : Addr) (h : Heap), (K w.params).In h → h.Ns mainGlobals mg → mg d.name = some (.ref fa) →
      ∃ fd : FuncData, (∀ (s : Shared) (u : Value), BindsTo s fd ⟨[u], []⟩ [("_law_script", u)]) ∧ ∀ base : Heap, (K w.params).In base → base.Ns mainGlobals mg → FnOk l.prog w (K w.params) mg base CX0 13 fa fd ["_law_script"] (spLaw (K w.params))) :
    PySem.W.WalkO q loose XP YP l.row.toRowW d [] (fun f vs => PySem.call f vs) :=
  L2.walk_of (n := 63) (k := 13) (x := "_law_script") (CX := fun _ => CX0) (sp := fun w => spLaw (K w.params)) hn (by decide) hdf ⟨rfl, by decide, by decide⟩ hY F (fun _ _ a ns hl _ hS => ⟨a, ns, rfl, hS, hl, fun _ => rfl⟩) fun _ _ _ _ _ z => z
end K
open PySem PySem.W PyProof.Rows
set_option maxRecDepth 100000 in
set_option maxHeartbeats 0 in
theorem PySem.Challenge.cw_swapslip_k05_whole_prices_by_all_ways_holds : PySem.Challenge.rw_swapslip_k05_whole_prices_by_all_ways.Holds := by
  w_on; o_law; k_head; (case hw => w_witness2)
  k_fill
  refine K.walk (l := PySem.Challenge.rw_swapslip_k05_whole_prices_by_all_ways) rfl rfl (fun w h Y => PySem.W.kIn_of Y) ?F
  case F =>
    intro w mg fa h KX G hmg
    refine' K.all_mk KX G hmg ?a0 ?l0 ?c0 ?k0 ?a1 ?l1 ?c1 ?k1 ?a2 ?l2 ?c2 ?k2 ?a3 ?l3 ?c3 ?k3 ?a4 ?l4 ?c4 ?k4 ?a5 ?l5 ?c5 ?k5 ?a6 ?l6 ?c6 ?k6 ?a7 ?l7 ?c7 ?k7 ?a8 ?l8 ?c8 ?k8 ?a9 ?l9 ?c9 ?k9 ?a10 ?l10 ?c10 ?k10 ?a11 ?l11 ?c11 ?k11 ?a12 ?l12 ?c12 ?k12 ?a13 ?l13 ?c13 ?k13 ?a14 ?l14 ?c14 ?k14 ?a15 ?l15 ?c15 ?k15 ?aS ?rd ?rga ?atS ?lS ?lT ?cS ?kS ?vV ?zV ?aNoHouse ?xNoHouse ?rNoHouse ?saNoHouse ?exNoHouse ?tyNoHouse ?kcNoHouse ?gaNoHouse ?ggNoHouse ?hdNoHouse ?iNoHouse ?tiNoHouse ?lNoHouse ?cNoHouse ?kfNoHouse ?wNoHouse ?flNoHousehouse ?icNoHouse ?aNoWay ?xNoWay ?rNoWay ?saNoWay ?exNoWay ?tyNoWay ?kcNoWay ?gaNoWay ?ggNoWay ?hdNoWay ?iNoWay ?tiNoWay ?lNoWay ?cNoWay ?kfNoWay ?wNoWay ?flNoWaylot ?icNoWay ?zlen ?zrange ?zlist ?ztuple ?zisinstance ?zbool ?zint ?zstr ?zall ?zzip ?zsum ?zmin ?zsorted ?zabs ?zenumerate
    (case a0 => k_is)
    (case l0 => k_is)
    (case c0 => k_is)
    (case k0 => k_is)
    (case a1 => k_is)
    (case l1 => k_is)
    (case c1 => k_is)
    (case k1 => k_is)
    (case a2 => k_is)
    (case l2 => k_is)
    (case c2 => k_is)
    (case k2 => k_is)
    (case a3 => k_is)
    (case l3 => k_is)
    (case c3 => k_is)
    (case k3 => k_is)
    (case a4 => k_is)
    (case l4 => k_is)
    (case c4 => k_is)
    (case k4 => k_is)
    (case a5 => k_is)
    (case l5 => k_is)
    (case c5 => k_is)
    (case k5 => k_is)
    (case a6 => k_is)
    (case l6 => k_is)
    (case c6 => k_is)
    (case k6 => k_is)
    (case a7 => k_is)
    (case l7 => k_is)
    (case c7 => k_is)
    (case k7 => k_is)
    (case a8 => k_is)
    (case l8 => k_is)
    (case c8 => k_is)
    (case k8 => k_is)
    (case a9 => k_is)
    (case l9 => k_is)
    (case c9 => k_is)
    (case k9 => k_is)
    (case a10 => k_is)
    (case l10 => k_is)
    (case c10 => k_is)
    (case k10 => k_is)
    (case a11 => k_is)
    (case l11 => k_is)
    (case c11 => k_is)
    (case k11 => k_is)
    (case a12 => k_is)
    (case l12 => k_is)
    (case c12 => k_is)
    (case k12 => k_is)
    (case a13 => k_is)
    (case l13 => k_is)
    (case c13 => k_is)
    (case k13 => k_is)
    (case a14 => k_is)
    (case l14 => k_is)
    (case c14 => k_is)
    (case k14 => k_is)
    (case a15 => k_is)
    (case l15 => k_is)
    (case c15 => k_is)
    (case k15 => k_is)
    (case aS => k_is)
    (case rd => k_is)
    (case rga => k_is)
    (case atS => k_is)
    (case lS => k_is)
    (case lT => k_is)
    (case cS => k_is)
    (case kS => k_is)
    (case vV => k_is)
    (case zV => k_is)
    (case aNoHouse => k_is)
    (case xNoHouse => k_is)
    (case rNoHouse => first | rfl | decide +kernel)
    (case saNoHouse => k_is)
    (case exNoHouse => k_is)
    (case tyNoHouse => k_is)
    (case kcNoHouse => k_is)
    (case gaNoHouse => k_is)
    (case ggNoHouse => k_is)
    (case hdNoHouse => k_is)
    (case iNoHouse => k_is)
    (case tiNoHouse => k_is)
    (case lNoHouse => k_is)
    (case cNoHouse => k_is)
    (case kfNoHouse => k_is)
    (case wNoHouse => k_is)
    (case flNoHousehouse => k_is)
    (case icNoHouse => k_is)
    (case aNoWay => k_is)
    (case xNoWay => k_is)
    (case rNoWay => first | rfl | decide +kernel)
    (case saNoWay => k_is)
    (case exNoWay => k_is)
    (case tyNoWay => k_is)
    (case kcNoWay => k_is)
    (case gaNoWay => k_is)
    (case ggNoWay => k_is)
    (case hdNoWay => k_is)
    (case iNoWay => k_is)
    (case tiNoWay => k_is)
    (case lNoWay => k_is)
    (case cNoWay => k_is)
    (case kfNoWay => k_is)
    (case wNoWay => k_is)
    (case flNoWaylot => k_is)
    (case icNoWay => k_is)
    (case zlen => k_is)
    (case zrange => k_is)
    (case zlist => k_is)
    (case ztuple => k_is)
    (case zisinstance => k_is)
    (case zbool => k_is)
    (case zint => k_is)
    (case zstr => k_is)
    (case zall => k_is)
    (case zzip => k_is)
    (case zsum => k_is)
    (case zmin => k_is)
    (case zsorted => k_is)
    (case zabs => k_is)
    (case zenumerate => k_is)
