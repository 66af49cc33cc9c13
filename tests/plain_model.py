"""The tree of the document's points 6 to 8 once more, as simply as can be.

Each deed is tried on a deep copy, so nothing has to be undone; cells stand in
the files themselves, use is counted anew each time.
"""

import copy

TOP = 0


class No(Exception):
    pass


class Model:
    def __init__(self, groups=()):
        self.groups = dict(groups)
        self.tick = 0
        self.nodes = {TOP: self.node("folder", "root", "root", ("rw", "rw", "rw"))}
        self.promises = {}
        self.made = 0
        self.shares = {}
        self.snaps = {}

    def node(self, kind, owner, group, rights):
        return {"kind": kind, "owner": owner, "group": group, "rights": rights,
                "names": {}, "limit": None, "cells": ()}

    def do(self, tick, user, deed):
        trial = copy.deepcopy(self)
        trial.tick = tick
        try:
            answer = getattr(trial, "do_" + deed[0])(user, *deed[1:]) or ("done",)
            if answer[0] == "done" and deed[0] != "put" and not trial.has_room():
                raise No("noroom")
            self.__dict__ = trial.__dict__
            return answer
        except No as no:
            self.tick = tick
            word = no.args[0]
            if deed[0] == "put" and word != "late":
                self.promises[deed[1]]["put"] = True
            return ("no", word)

    def strained(self, tick, user, deed):
        """(WHO, LIMIT, USE) of all that would have more than its limit behind the deed."""
        trial = copy.deepcopy(self)
        trial.tick = tick
        getattr(trial, "do_" + deed[0])(user, *deed[1:])
        rows = []
        for path in [(), *trial.paths()]:
            folder = trial.come("root", path)
            limit = trial.nodes[folder]["limit"]
            if limit is not None and trial.use(folder) > limit:
                rows.append((path, limit, trial.use(folder)))
        for whose, many in trial.shares.items():
            if trial.held(whose) > many:
                rows.append((whose, many, trial.held(whose)))
        return rows

    # Room.

    def below(self, folder):
        found = set()
        for node in self.nodes[folder]["names"].values():
            found |= {node} if self.nodes[node]["kind"] == "file" else self.below(node)
        return found

    def stands(self, promise):
        return not promise["put"] and self.tick <= promise["tick"] + 40

    def weight(self, file):
        promised = [row["many"] for row in self.promises.values()
                    if row["file"] == file and self.stands(row)]
        return len(self.nodes[file]["cells"]) + sum(promised)

    def use(self, folder):
        return sum(self.weight(file) for file in self.below(folder))

    def held(self, user):
        return sum(self.weight(file) for file in self.below(TOP)
                   if self.nodes[file]["owner"] == user)

    def folders(self, folder=TOP):
        found = {folder}
        for node in self.nodes[folder]["names"].values():
            if self.nodes[node]["kind"] == "folder":
                found |= self.folders(node)
        return found

    def has_room(self):
        for folder in self.folders():
            limit = self.nodes[folder]["limit"]
            if limit is not None and self.use(folder) > limit:
                return False
        return all(self.held(user) <= many for user, many in self.shares.items())

    # Ways.

    def may(self, user, sign, node, nodes=None):
        node = (nodes or self.nodes)[node]
        if user == "root":
            return True
        if user == node["owner"]:
            return sign in node["rights"][0]
        if user in self.groups.get(node["group"], ()):
            return sign in node["rights"][1]
        return sign in node["rights"][2]

    def need(self, fine, word):
        if not fine:
            raise No(word)

    def come(self, user, path, nodes=None, top=TOP):
        nodes = nodes or self.nodes
        here = top
        for name in path:
            self.need(nodes[here]["kind"] == "folder", "nofolder")
            self.need(self.may(user, "r", here, nodes), "noright")
            self.need(name in nodes[here]["names"], "nothere")
            here = nodes[here]["names"][name]
        return here

    def parent(self, user, path):
        folder = self.come(user, path[:-1])
        self.need(self.nodes[folder]["kind"] == "folder", "nofolder")
        self.need(self.may(user, "w", folder), "noright")
        return folder

    def add(self, user, path, node):
        self.need(path != (), "stands")
        folder = self.parent(user, path)
        names = self.nodes[folder]["names"]
        self.need(path[-1] not in names, "stands")
        if isinstance(node, str):
            kind, node = node, max(self.nodes) + 1
            group = self.nodes[folder]["group"]
            self.nodes[node] = self.node(kind, user, group, ("rw", "r", "r"))
        names[path[-1]] = node

    def old(self, user, path):
        self.need(path != (), "top")
        folder = self.parent(user, path)
        self.need(path[-1] in self.nodes[folder]["names"], "nothere")
        return self.nodes[folder]["names"], self.nodes[folder]["names"][path[-1]]

    def paths(self, folder=TOP, ahead=()):
        found = []
        for name, node in self.nodes[folder]["names"].items():
            found.append(ahead + (name,))
            if self.nodes[node]["kind"] == "folder":
                found += self.paths(node, ahead + (name,))
        return found

    # Deeds.

    def do_folder(self, user, path):
        self.add(user, path, "folder")

    def do_file(self, user, path):
        self.add(user, path, "file")

    def do_link(self, user, path, new):
        file = self.come(user, path)
        self.need(self.nodes[file]["kind"] == "file", "nofile")
        self.add(user, new, file)

    def do_move(self, user, path, new):
        names, node = self.old(user, path)
        if self.nodes[node]["kind"] == "folder":
            self.need(not (len(new) > len(path) and new[:len(path)] == path), "ring")
        self.add(user, new, node)
        del names[path[-1]]
        self.need(all(len(row) <= 6 for row in self.paths()), "deep")

    def do_strike(self, user, path):
        names, node = self.old(user, path)
        self.need(not self.nodes[node]["names"], "full")
        del names[path[-1]]

    def do_cut(self, user, path, many):
        file = self.the_file(user, path, "w")
        self.need(many <= len(self.nodes[file]["cells"]), "noplace")
        self.nodes[file]["cells"] = self.nodes[file]["cells"][:many]

    def do_rights(self, user, path, owner, group, rights):
        node = self.nodes[self.come(user, path)]
        self.need(user in (node["owner"], "root"), "noright")
        self.need(owner == node["owner"] or user == "root", "noright")
        node.update(owner=owner, group=group, rights=rights)

    def the_file(self, user, path, sign):
        file = self.come(user, path)
        self.need(self.nodes[file]["kind"] == "file", "nofile")
        self.need(self.may(user, sign, file), "noright")
        return file

    def the_folder(self, user, path):
        folder = self.come(user, path)
        self.need(self.nodes[folder]["kind"] == "folder", "nofolder")
        return folder

    def do_read(self, user, path):
        return ("told", self.nodes[self.the_file(user, path, "r")]["cells"])

    def do_list(self, user, path):
        folder = self.the_folder(user, path)
        self.need(self.may(user, "r", folder), "noright")
        names = self.nodes[folder]["names"]
        return ("told", tuple(sorted((name, self.nodes[names[name]]["kind"]) for name in names)))

    def do_look(self, user, path):
        node = self.nodes[self.come(user, path)]
        size = len(node["cells"]) + len(node["names"])
        return ("told", (node["kind"], node["owner"], node["group"], node["rights"], size))

    def answer(self, deed, user, path):
        try:
            return deed(user, path)
        except No as no:
            return ("no", no.args[0])

    def sight(self, user, path):
        look = self.answer(self.do_look, user, path)
        if look[0] == "no":
            return (look, look)
        inner = self.do_list if look[1][0] == "folder" else self.do_read
        return (look, self.answer(inner, user, path))

    def do_sight(self, user, path):
        return ("told", self.sight(user, path))

    def do_lease(self, user, path, ticks):
        return ("told", (self.sight(user, path), self.tick + ticks))

    def do_back(self, user, path):
        return None

    def do_limit(self, user, path, many):
        folder = self.nodes[self.the_folder(user, path)]
        self.need(user in (folder["owner"], "root"), "noright")
        folder["limit"] = many

    def do_share(self, user, whose, many):
        self.need(user == "root", "noright")
        self.shares.pop(whose, None)
        if many is not None:
            self.shares[whose] = many

    def do_promise(self, user, path, place, many):
        file = self.the_file(user, path, "w")
        self.need(place is None or place <= len(self.nodes[file]["cells"]), "noplace")
        self.made += 1
        self.promises[self.made] = {"file": file, "user": user, "place": place, "many": many,
                                    "tick": self.tick, "put": False}
        return ("done", self.made)

    def do_put(self, user, number, data):
        row = self.promises.get(number)
        self.need(row and self.stands(row) and row["user"] == user, "late")
        self.need(row["many"] == len(data), "late")
        row["put"] = True
        self.need(row["file"] in self.below(TOP), "nofile")
        self.need(self.may(user, "w", row["file"]), "noright")
        cells = self.nodes[row["file"]]["cells"]
        place = len(cells) if row["place"] is None else row["place"]
        self.need(place <= len(cells), "noplace")
        self.nodes[row["file"]]["cells"] = cells[:place] + data + cells[place + len(data):]

    def do_use(self, user, path):
        folder = self.the_folder(user, path)
        self.need(self.may(user, "r", folder), "noright")
        return ("told", (self.use(folder), self.nodes[folder]["limit"]))

    def do_held(self, user, whose):
        self.need(user in (whose, "root"), "noright")
        return ("told", (self.held(whose), self.shares.get(whose)))

    def do_snap(self, user, path, name):
        folder = self.the_folder(user, path)
        self.need(user in (self.nodes[folder]["owner"], "root"), "noright")
        self.need(name not in self.snaps, "stands")
        self.snaps[name] = (folder, copy.deepcopy(self.nodes))

    def do_old(self, user, name, path):
        self.need(name in self.snaps, "nosnap")
        top, nodes = self.snaps[name]
        node = self.come(user, path, nodes, top)
        self.need(self.may(user, "r", node, nodes), "noright")
        if nodes[node]["kind"] == "file":
            return ("told", nodes[node]["cells"])
        names = nodes[node]["names"]
        return ("told", tuple(sorted((name, nodes[names[name]]["kind"]) for name in names)))
